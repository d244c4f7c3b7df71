import PyProof.Rows.All
import Wide.All
import OpenK.AllK
import Wide.FinOn
import PyProof.ReprRoads
import HandS.ForMost
import HandS.Wide
import PyProof.StrLawsRepr
import PyProof.ReprLen
import HandS.TupAny
import HandS.Gcd
import HandS.More
import HandS.IsInst
import HandS.Style
import HandS.Defaults
import Flt.RightSqrt
import HandS.Codes
import HandS.WideBits
import KE.BitLaws
import HandS.TryOnly
import HandS.Flt
import PySem.Challenge.RW_pointsum_k52_whole_triangles
set_option Elab.async false
set_option linter.all false
set_option maxRecDepth 100000
/-! Promises that know that no repr is under way around the call; repr of plain data. -/
namespace Gd
open PySem PySem.Spec PyProof.Rows L2
/-- as the layer's FnOk, for calls around which nothing is being shown -/
structure FnG (P : Program) (w : World) (K : PySem.W.Frag) (mg : Str → Option Value) (base : Heap) (k : Nat) (f : Addr) (fd : FuncData) (ps : List Str) (sp : Sp) : Prop where
  many : ∀ vs H Q E, sp vs H Q E → vs.length = ps.length
  goes : ∀ (A : Around) (outer : List Env) (s : Shared) (H : Hp) (args : Args) (us : List Value) (vs : List V) (Q : VK) (E : XK), A.guards = some [] → Room k A → Env0 P w K mg base A outer s H →
    BindsTo s fd args (ps.zip us) → Vals vs us → sp vs H Q E → codeAny (model P w) A (.call (.ref f) args) (CR CX0 outer P w H s Q E) s
section
variable {P : Program} {w : World} {K : PySem.W.Frag} {mg : Str → Option Value} {base : Heap}
theorem FnG.of {k : Nat} {f : Addr} {fd : FuncData} {ps : List Str} {sp : Sp} (F : FnOk P w K mg base CX0 k f fd ps sp) : FnG P w K mg base k f fd ps sp :=
  ⟨F.len, fun A outer s H args us vs Q E _ => F.run A outer s H args us vs Q E⟩
theorem FnG.up {j k : Nat} {f : Addr} {fd : FuncData} {ps : List Str} {sp : Sp} (F : FnG P w K mg base j f fd ps sp) (h : j ≤ k) : FnG P w K mg base k f fd ps sp :=
  ⟨F.many, fun A outer s H args us vs Q E hg hr => F.goes A outer s H args us vs Q E hg (hr.mono h)⟩
/-- a def by its body -/
theorem FnG.by_body {x qual : Str} {st : Stmt} {f : Addr} {fd : FuncData} {N ps : List Str} {k : Nat} {sp : Sp} (F : Fun K x qual st f fd) (S : FnScope N ps (defScope st)) (len : ∀ vs H Q E, sp vs H Q E → vs.length = ps.length)
    (hb : ∀ (cdv : Value) (A : Around) (outer : List Env) (s : Shared) (H : Hp) (vs : List V) (Q : VK) (E : XK), A.guards = some [] → Room k (A.deeper (envOfC qual (defScope st) s.heap.objs.size f cdv)) → sp vs H Q E →
      ∃ t, PSs (cxOf CX0 P w K mg base N qual (defScope st) f cdv A outer s H E).nox (defBody st) t ∧ t { nx := fun _ H' => Q .non H', rt := Q } (start N vs) H) : FnG P w K mg base (k + 1) f fd ps sp := by
  obtain ⟨oc, od, kV, doc, pm, an, cdv, ct, osl, rfl, lk, hcd⟩ := F.ex
  constructor
  · exact len
  · intro A outer s H args us vs Q E hg hr e0 hbi rv hsp
    have hlen := len _ _ _ _ hsp
    have lim : s.heap.NoLimit := e0.mod.nolimit.keeps fun b o e => (e0.bs b o e).1
    have inK : K.In s.heap := e0.mod.kin.keeps fun b o e => (e0.bs b o e).1
    have kinds : ∀ y ∈ ps.zip us, (defScope st).names.lookup y.1 = some .local ∨ ((defScope st).names.lookup y.1 = some .cell ∧ ((cellsFrom (s.heap.objs.size + 1) (defScope st).names []).lookup y.1).isSome = true) := by
      rintro ⟨n, v⟩ hy
      have hp := S.par n (List.of_mem_zip hy).1
      cases hp with
      | inl q => exact Or.inl q
      | inr q => exact Or.inr ⟨q, PySem.W.cellsFrom_some _ _ _ (Or.inl q)⟩
    refine codeAny_call_function hr.depth (inK _ _ lk) rfl S.co S.gen rfl (PySem.W.codeRec_of inK hcd) (hbi _ _ _ _ ?_)
    refine wpAny_newFunctionEnv_cells S.kind kinds fun env he s1 x1 => ?_
    subst he
    refine ⟨lim.keeps x1.toInCall.keep, codeAny_func ?_⟩
    obtain ⟨t, ht, hq⟩ := hb cdv A outer s H vs Q E hg (hr.deeper _) hsp
    have I0 : Inv (cxOf CX0 P w K mg base N qual (defScope st) f cdv A outer s H E) [] (start N vs) H s1 := inv_start S hr.hd e0 hlen rv x1
    refine wpAny_mono (ht.nox.run [] s1 (start N vs) H _ I0 hq) (fun fl s' hs => ?_) fun e s' hs => hs
    match fl, hs with
    | .ret u, ⟨v, σ', H', J, r1, q1⟩ => exact ⟨v, H', J.os, J.bare, J.base, J.hok, r1, q1⟩
    | .next, ⟨σ', H', J, q1⟩ => exact ⟨V.non, H', J.os, J.bare, J.base, J.hok, rfl, q1⟩
    | .brk, ⟨_, _, _, q1⟩ => exact q1.elim
    | .cont, ⟨_, _, _, q1⟩ => exact q1.elim
end
/-- f(e, ..) where every parameter is given -/
def tKal (sp : Sp) (t : TA) : TE := fun σ H Q => t σ H fun vs H1 => sp vs H1 Q E0
/-- a def that may be called by its name -/
structure Kl (P : Program) (w : World) (K : PySem.W.Frag) (mg : Str → Option Value) (base : Heap) (k : Nat) (x : Str) (sp : Sp) : Prop where
  ex : ∃ (f : Addr) (fd : FuncData) (ps : List Str), FnOk P w K mg base CX0 k f fd ps sp ∧ mg x = some (.ref f) ∧ PySem.W.keepIn K (.ref f) = true ∧ Binds K fd ps []
structure Kg (P : Program) (w : World) (K : PySem.W.Frag) (mg : Str → Option Value) (base : Heap) (k : Nat) (x : Str) (sp : Sp) : Prop where
  ex : ∃ (f : Addr) (fd : FuncData) (ps : List Str), FnG P w K mg base k f fd ps sp ∧ mg x = some (.ref f) ∧ PySem.W.keepIn K (.ref f) = true ∧ Binds K fd ps []
section
variable {X : Cx} {j k : Nat} {f : Addr} {fd : FuncData} {ps : List Str} {sp : Sp} {x : Str} {p pos : Pos} {e : Expr} {es : List Expr} {t : TA}
theorem run_g {pins : List (Addr × Obj)} {σ : L2.St} {H : Hp} {s : Shared} {Q : VK} {us : List Value} {vs : List V} (F : FnG X.prog X.w X.K X.mg X.base k f fd ps sp) (hg : X.A.guards = some []) (hr : Room k X.A) (hb : Binds X.K fd ps [])
    (I : Inv X pins σ H s) (r : Vals vs us) (h : sp vs H Q E0) : wpAny (model X.prog X.w) X.A (call (.ref f) us) (EP X pins σ Q) X.xe s := by
  have hl : us.length = ps.length := r.length.symm.trans (F.many _ _ _ _ h)
  have hbb := hb s us I.kIn (by rw [List.append_nil]; exact hl)
  rw [List.append_nil] at hbb
  refine wpAny_call (codeAny_mono (F.goes X.A X.stack s H ⟨us, []⟩ us vs Q E0 hg hr I.env0 hbb r h) fun res s' hq => ?_)
  match res, hq with
  | .ok (.ret u), hq => exact I.after hq
  | .error e, hq => exact (show False from hq).elim
theorem pe_g (c : Kg X.prog X.w X.K X.mg X.base k x sp) (hgd : X.A.guards = some []) (hr : Room j X.A) (hk : k ≤ j) (hg : Gl X x) (ha : PA X (e :: es) t)
    (hdb : (x == ("__debug__" : Str)) = false := by decide) (he : starEach (e :: es) X.env = (false, eval e X.env) :: starEach es X.env := by rfl) (hpl : (backTo pos (starEach es X.env)).any (·.1) = false := by rfl) :
    PE X (.Call (.Name x p) (e :: es) [] pos) (tKal sp t) := by
  obtain ⟨f, fd, ps, F, hm, kp, b⟩ := c.ex
  constructor
  intro pins s σ H Q I h
  refine wpAny_Call_Name_kw (ld_glob I hg hm ?_ hdb)
  refine PySem.W.callWith_K (h₀ := X.base) I.ok.mod.kin kp (thn (ha.run pos pins s σ H _ I h) fun us s1 ⟨vs, H1, I1, r, q⟩ => ⟨I1.kIn, ?_⟩) he hpl
  exact run_g F hgd (hr.mono hk) b I1 r q
theorem pe_k (c : Kl X.prog X.w X.K X.mg X.base k x sp) (hr : Room j X.A) (hk : k ≤ j) (hg : Gl X x) (ha : PA X (e :: es) t)
    (hdb : (x == ("__debug__" : Str)) = false := by decide) (he : starEach (e :: es) X.env = (false, eval e X.env) :: starEach es X.env := by rfl) (hpl : (backTo pos (starEach es X.env)).any (·.1) = false := by rfl) :
    PE X (.Call (.Name x p) (e :: es) [] pos) (tKal sp t) := by
  obtain ⟨f, fd, ps, F, hm, kp, b⟩ := c.ex
  have h := pe_call (sp := sp) (E := E0) (dvs := []) F (hr.mono hk) hg hm kp b .nil pass0 ha hdb he hpl (pos := pos) (p := p)
  constructor
  intro pins s σ H Q I q
  refine h.run pins s σ H Q I ?_
  have e2 : tCall sp [] E0 t = tKal sp t := by
    funext σ H Q
    show t σ H (fun vs H1 => sp (vs ++ []) H1 Q E0) = t σ H (fun vs H1 => sp vs H1 Q E0)
    congr 1
    funext vs H1
    rw [List.append_nil]
  rw [e2]
  exact q
end
/-! ### repr of plain data -/
mutual
/-- at most so many signs -/
def wt : PyData → Nat
  | .none | .bool _ => 5
  | .int _ => 1921
  | .str x => 10 * x.length + 2
  | .list xs | .tuple xs => wtAll xs + 3
  | .dict _ => 0
def wtAll : List PyData → Nat
  | [] => 0
  | x :: xs => wt x + 2 + wtAll xs
end
mutual
/-- data that can be shown: its ints below 1920 bits -/
def okD : PyData → Bool
  | .none | .bool _ => true
  | .int i => decide (i.natAbs.log2 < 1920)
  | .str x => x.cps.toList.all fun c => decide (c < 16 ^ 8)
  | .list xs | .tuple xs => okAll xs
  | .dict _ => false
def okAll : List PyData → Bool
  | [] => true
  | x :: xs => okD x && okAll xs
end
theorem one_br : (("[" : Str)).length = 1 := rfl
theorem one_br2 : (("]" : Str)).length = 1 := rfl
theorem one_pa : (("(" : Str)).length = 1 := rfl
theorem tup_wt (ts : List Str) : (tupleText ts).length ≤ piled ts + 3 := by
  have e3 : (((if ts.length == 1 then ",)" else ")" : String) : Str)).length ≤ 2 := by split <;> decide +kernel
  unfold tupleText
  rw [strLen_append, strLen_append, one_pa]
  cases ts with
  | nil =>
    have : (Str.join ", " []).length = 0 := by decide +kernel
    omega
  | cons x r =>
    have := join_length_add (x :: r) (List.cons_ne_nil _ _)
    omega
theorem sum_piled : ∀ ts : List Str, (ts.map (·.length)).sum + 2 * ts.length = piled ts
  | [] => rfl
  | t :: ts => by
    have ih := sum_piled ts
    rw [piled_cons, ← ih, List.map_cons, List.sum_cons, List.length_cons]
    omega
theorem lst_wt (ts : List Str) : (listText ts).length ≤ piled ts + 3 := by
  have h := textFrom_len_le ts 0 "["
  have h2 := sum_piled ts
  unfold listText
  rw [strLen_append, one_br2]
  rw [one_br] at h
  omega
mutual
theorem shown_wt : ∀ d : PyData, okD d = true → d.shown.length ≤ wt d ∧ d.showable = true ∧ d.hasDict = false
  | .none, _ => by
    refine ⟨?_, rfl, rfl⟩
    show (("None" : Str)).length ≤ 5
    decide +kernel
  | .bool b, _ => by
    refine ⟨?_, rfl, rfl⟩
    cases b <;> (show _ ≤ 5; decide +kernel)
  | .int i, h => by
    have h1 : i.natAbs.log2 < 1920 := of_decide_eq_true (by simpa only [okD] using h)
    refine ⟨?_, by simpa only [PyData.showable] using decide_eq_true h1, rfl⟩
    have e := int_text_length_le (k := 1920) (by decide) h1
    show (Str.ofString (toString i)).length ≤ 1921
    rw [PySem.ofString_length]
    exact e
  | .str x, h => by
    refine ⟨?_, rfl, rfl⟩
    have h1 : ∀ c ∈ x.cps.toList, c < 16 ^ 8 := fun c hc => of_decide_eq_true (List.all_eq_true.mp (by simpa only [okD] using h) c hc)
    exact StrLaws.reprText_len x h1
  | .list xs, h => by
    obtain ⟨h1, h2, h3⟩ := shown_wtAll xs (by simpa only [okD] using h)
    refine ⟨?_, by simpa only [PyData.showable] using h2, by simpa only [PyData.hasDict] using h3⟩
    simp only [PyData.shown, wt]
    exact Nat.le_trans (lst_wt _) (Nat.add_le_add_right h1 3)
  | .tuple xs, h => by
    obtain ⟨h1, h2, h3⟩ := shown_wtAll xs (by simpa only [okD] using h)
    refine ⟨?_, by simpa only [PyData.showable] using h2, by simpa only [PyData.hasDict] using h3⟩
    simp only [PyData.shown, wt]
    exact Nat.le_trans (tup_wt _) (Nat.add_le_add_right h1 3)
  | .dict _, h => by simp only [okD, Bool.false_eq_true] at h
theorem shown_wtAll : ∀ xs : List PyData, okAll xs = true → piled (PyData.shownAll xs) ≤ wtAll xs ∧ PyData.showableAll xs = true ∧ PyData.hasDictAll xs = false
  | [], _ => ⟨Nat.le_refl _, rfl, rfl⟩
  | x :: xs, h => by
    have h0 : (okD x && okAll xs) = true := by simpa only [okAll] using h
    rw [Bool.and_eq_true] at h0
    obtain ⟨a1, a2, a3⟩ := shown_wt x h0.1
    obtain ⟨b1, b2, b3⟩ := shown_wtAll xs h0.2
    refine ⟨?_, by simp only [PyData.showableAll, a2, b2, Bool.and_self], by simp only [PyData.hasDictAll, a3, b3, Bool.or_self]⟩
    simp only [PyData.shownAll, wtAll]
    rw [piled_cons]
    omega
end
/-- the text of data -/
def rRepr (K : PySem.W.Frag) : List V → Hp → VK → Prop := fun xs H Q => ∃ x d, xs = [x] ∧ Dp K H x d ∧ okD d = true ∧ d.depth ≤ 40 ∧ wt d ≤ 1000000 ∧ Q (.str d.shown) H
section
variable {X : Cx}
theorem call_reprD (hg : X.A.guards = some []) (hu : X.A.units + 64 < cLine) : CallR X (.builtin "repr") (rRepr X.K) := by
  intro pins s σ H xs us Q I r h
  obtain ⟨x, d, rfl, hd, h0, h3, hw, q⟩ := h
  obtain ⟨hz, h1, h2⟩ := shown_wt d h0
  have h4 : d.shown.length ≤ sizeLine := Nat.le_trans hz (Nat.le_trans hw (by decide))
  obtain ⟨u, rfl, hx⟩ := vals1 r
  obtain ⟨as, rd⟩ := Dp.reads I d x u hd hx
  cases hd with
  | non =>
    obtain rfl : u = Value.none := hx
    exact PySem.P.repr_of_none ⟨.str _, H, I.tok _, ⟨_, rfl⟩, q⟩
  | bl b =>
    obtain rfl : u = Value.bool b := hx
    exact PySem.P.repr_of_bool ⟨.str _, H, I.tok _, ⟨_, rfl⟩, q⟩
  | int i =>
    obtain ⟨t, rfl⟩ := hx
    exact PySem.P.repr_of_int (of_decide_eq_true h1) ⟨.str _, H, I.tok _, ⟨_, rfl⟩, q⟩
  | str z =>
    obtain ⟨t, rfl⟩ := hx
    exact PySem.P.repr_of_str ⟨.str _, H, I.tok _, ⟨_, rfl⟩, q⟩ h4
  | lst hs ha =>
    obtain rfl : u = Value.ref _ := hx
    refine repr_of_reads' rd h1 (PyData.noDict_hsm h2) hg (by omega) (fun _ _ z => z) (fun h' u tk hk => ?_) h4
    exact ⟨.str _, H, I.kept (t' := tk) hk, ⟨_, rfl⟩, q⟩
  | tup hs ha =>
    obtain rfl : u = Value.ref _ := hx
    refine repr_of_reads' rd h1 (PyData.noDict_hsm h2) hg (by omega) (fun _ _ z => z) (fun h' u tk hk => ?_) h4
    exact ⟨.str _, H, I.kept (t' := tk) hk, ⟨_, rfl⟩, q⟩
end
/-! ### the law's end -/
section
variable {P : Program} {w : World} {K : PySem.W.Frag} {mg mb : Str → Option Value} {k : Nat} {fa a : Addr} {fd : FuncData} {x : Str} {sp : Sp} {s1 : Shared} {vs : List Value} {ns : List Int}
/-- from a heap H in which at most the script is tracked -/
theorem law_from {H : Hp} (KX : K.In s1.heap) (hns : s1.heap.Ns mainGlobals mg) (hb : s1.heap.Ns builtinsNs mb) (hbb : ∀ x : Str, x ≠ "__name__" → mb x = bootBuiltins x) (hlim : s1.heap.NoLimit) (hg : s1.gens = #[])
    (ha : s1.heap.get? a = some { cls := .type "list", data := .seq vs.toArray }) (hr : Room k callerA) (F : ∀ base : Heap, K.In base → base.Ns mainGlobals mg → FnG P w K mg base k fa fd [x] sp)
    (hbind : ∀ (s : Shared) (u : Value), BindsTo s fd ⟨[u], []⟩ [(x, u)]) (hO : Only H) (hok : HOk P w H s1.heap) (hA : ∀ b, H b ≠ none → b = a) (hK : H a ≠ none → K.lookup a = none)
    (hsp : sp [.ref a] H (fun v _ => v = .bl true) fun _ _ _ => False) :
    codeAny (model P w) callerA (.call (.ref fa) ⟨[.ref a], []⟩) (fun r s' => r = .ok (.ret (.bool true)) ∧ OldK s1.heap s'.heap ∧ s'.os = s1.os ∧ AllBare s'.gens) s1 := by
  have untr : ∀ {b : Addr} {o : Obj} {es : Array DictEntry} {ep : Nat}, s1.heap.get? b = some o → o.data = .dict es ep → H b = none := by
    intro b o es ep e d
    cases q : H b with
    | none => rfl
    | some u =>
      obtain rfl : b = a := hA b (by rw [q]; exact Option.some_ne_none u)
      rw [ha] at e
      cases e
      exact absurd (show Data.seq vs.toArray _ = Data.dict es ep from d) (by intro z; cases z)
  have nsH : ∀ {b : Addr} {m : Str → Option Value}, s1.heap.Ns b m → (hidT s1.heap H).Ns b m := by
    rintro b m ⟨o, es, ep, e, d, r⟩
    exact ⟨o, es, ep, hidT_get e (untr e d), d, r⟩
  have inH : K.In (hidT s1.heap H) := by
    intro b o e
    refine hidT_get (KX b o e) ?_
    cases q : H b with
    | none => rfl
    | some u =>
      have hne : H b ≠ none := by rw [q]; exact Option.some_ne_none u
      obtain rfl : b = a := hA b hne
      rw [hK hne] at e
      cases e
  obtain ⟨mc, l1, l2⟩ := hlim
  have md : Mod K mg (hidT s1.heap H) := ⟨inH, nsH hns, ⟨mb, nsH hb, hbb⟩, ⟨mc, nsH l1, l2⟩⟩
  have e0 : Env0 P w K mg (hidT s1.heap H) callerA [] s1 H := by
    refine ⟨rfl, md, fun b o e => of_hidT e, Nat.le_of_eq (hidT_size _ _), trivial, ?_, hok, .of_eq hg⟩
    intro b hb
    cases (show b ∈ ([] : List Addr) from hb)
  have run := (F _ inH (nsH hns)).goes callerA [] s1 H ⟨[.ref a], []⟩ [.ref a] [.ref a] _ _ rfl hr e0 (hbind s1 (.ref a)) (.cons rfl .nil) hsp
  refine codeAny_mono run fun r s' h => ?_
  match r, h with
  | .error e, h => exact (show False from h).elim
  | .ok (.ret u), ⟨v, H', os, bare, un, hok', r', q⟩ =>
    obtain rfl : v = .bl true := q
    obtain rfl : u = Value.bool true := r'
    refine ⟨rfl, OldK.of_keep ?_, os, bare⟩
    intro b o e
    cases q : H b with
    | none => exact un.keep b o e q (fun z => by cases (show b ∈ ([] : List Addr) from z)) (fun z => by cases z)
    | some u =>
      rcases hO b with z | ⟨ob, xs, z⟩
      · rw [q] at z
        cases z
      · have k1 := (hok b _ z).1
        have k2 := (hok' b _ (un.frzs b ob _ z)).1
        rw [e] at k1
        cases k1
        exact k2
theorem law_g (KX : K.In s1.heap) (hns : s1.heap.Ns mainGlobals mg) (hb : s1.heap.Ns builtinsNs mb) (hbb : ∀ x : Str, x ≠ "__name__" → mb x = bootBuiltins x) (hlim : s1.heap.NoLimit) (hg : s1.gens = #[])
    (ha : s1.heap.get? a = some { cls := .type "list", data := .seq vs.toArray }) (hi : IntsAre vs ns) (hl : ns.length ≤ sizeLine) (hr : Room k callerA) (F : ∀ base : Heap, K.In base → base.Ns mainGlobals mg → FnG P w K mg base k fa fd [x] sp)
    (hbind : ∀ (s : Shared) (u : Value), BindsTo s fd ⟨[u], []⟩ [(x, u)]) (hsp : ∀ H : Hp, Only H → SqL K H a (ns.map V.int) → sp [.ref a] H (fun v _ => v = .bl true) fun _ _ _ => False) :
    codeAny (model P w) callerA (.call (.ref fa) ⟨[.ref a], []⟩) (fun r s' => r = .ok (.ret (.bool true)) ∧ OldK s1.heap s'.heap ∧ s'.os = s1.os ∧ AllBare s'.gens) s1 := by
  have rv := vals_ints hi
  have lv := hi.length
  cases hk : K.lookup a with
  | some o =>
    have e := KX a o hk
    rw [ha] at e
    cases e
    refine law_from (H := fun _ => none) KX hns hb hbb hlim hg ha hr F hbind (fun _ => Or.inl rfl) (fun b u z => ?_) (fun b z => absurd rfl z) (fun z => absurd rfl z) (hsp _ (fun _ => Or.inl rfl) (Or.inr ?_))
    · cases (show (none : Option HO) = some u from z)
    · exact ⟨_, vs.toArray, _, hk, rfl, rfl, rfl, by rw [List.size_toArray, lv]; exact hl, by simpa using rv⟩
  | none =>
    let ob : Obj := { cls := .type "list", data := .seq vs.toArray }
    have one : ∀ b, (if b = a then some (HO.frz ob (.lst (ns.map V.int))) else none) ≠ none → b = a := fun b z => by
      by_cases hb : b = a
      · exact hb
      · exact absurd (if_neg hb) z
    have only : Only (fun b => if b = a then some (HO.frz ob (.lst (ns.map V.int))) else none) := fun b => by
      by_cases hb : b = a
      · exact Or.inr ⟨_, _, if_pos hb⟩
      · exact Or.inl (if_neg hb)
    refine law_from (H := fun b => if b = a then some (HO.frz ob (.lst (ns.map V.int))) else none) KX hns hb hbb hlim hg ha hr F hbind only (fun b u z => ?_) one (fun _ => hk) (hsp _ only (Or.inl (Or.inr ⟨ob, if_pos rfl⟩)))
    by_cases hb : b = a
    · obtain rfl := Option.some.inj ((if_pos hb).symm.trans z)
      subst hb
      exact ⟨ha, by rw [List.length_map]; exact hl, vs, _, rv, ha⟩
    · cases (if_neg hb).symm.trans z
end
theorem walk_g {l : PySem.W.OpenLaw} {n k : Nat} {q : Program} {loose : List Str} {XP : (Str → Option Value) → Heap → Prop} {YP : World → Heap → Prop} {d : DefRec} {K : Params → PySem.W.Frag} {sp : PySem.W.Frag → Sp} {x : Str}
    (hn : l.most = some n) (hn2 : n ≤ sizeLine) (hdf : d.params.defaults = []) (hr : Room k callerA) (hY : ∀ (w : World) (h : Heap), YP w h → (K w.params).In h)
    (F : ∀ (w : World) (mg : Str → Option Value) (fa : Addr) (h : Heap), (K w.params).In h → h.Ns mainGlobals mg → mg d.name = some (.ref fa) → ∃ fd : FuncData, (∀ (s : Shared) (u : Value), BindsTo s fd ⟨[u], []⟩ [(x, u)]) ∧
        ∀ base : Heap, (K w.params).In base → base.Ns mainGlobals mg → FnG l.prog w (K w.params) mg base k fa fd [x] (sp (K w.params)))
    (hsp : ∀ (K : PySem.W.Frag) (H : Hp) (a : Addr) (ns : List Int), ns.length ≤ n → SqL K H a (ns.map V.int) → sp K [.ref a] H (fun v _ => v = .bl true) fun _ _ _ => False) :
    PySem.W.WalkO q loose XP YP l.row.toRowW d [] (fun f vs => PySem.call f vs) := by
  refine Att.attach_call hn hdf fun w s0 s1 mg mb fa o pm cd doc a vs ns G Y ho hd hcd hmg hobj hints hlen hg => ?_
  obtain ⟨fd, hb, hF⟩ := F w mg fa _ (hY w _ Y) G.T.g hmg
  exact law_g (hY w _ Y) G.T.g G.T.b G.T.builtins G.T.nolimit hg hobj hints (Nat.le_trans hlen hn2) hr hF hb fun H _ hS => hsp (K w.params) H a ns hlen hS
end Gd
set_option Elab.async false
set_option linter.all false
set_option maxRecDepth 100000
/-! Common words: sizes of ints, heaps that grow, defs of the text by their names. -/
namespace Gd
open PySem PySem.Spec PyProof.Rows L2
/-! ### sizes -/
def B (n : Nat) (x : Int) : Prop := x.natAbs < 2 ^ n
theorem B.up {m n : Nat} {x : Int} (h : B m x) (k : m ≤ n) : B n x := Nat.lt_of_lt_of_le h (Nat.pow_le_pow_right (by decide) k)
theorem B.add {m n : Nat} {x y : Int} (hx : B m x) (hy : B n y) : B (max m n + 1) (x + y) := by
  have h1 : x.natAbs < 2 ^ max m n := hx.up (Nat.le_max_left m n)
  have h2 : y.natAbs < 2 ^ max m n := hy.up (Nat.le_max_right m n)
  unfold B
  rw [Nat.pow_succ]
  omega
theorem B.neg {n : Nat} {x : Int} (hx : B n x) : B n (-x) := by
  unfold B at *
  omega
theorem B.sub {m n : Nat} {x y : Int} (hx : B m x) (hy : B n y) : B (max m n + 1) (x - y) := by
  rw [Int.sub_eq_add_neg]
  exact hx.add hy.neg
theorem B.mul {m n : Nat} {x y : Int} (hx : B m x) (hy : B n y) : B (m + n) (x * y) := wide_lt hx hy
theorem B.pow {m : Nat} {x : Int} (hx : B m x) : ∀ k : Nat, B (m * k + 1) (x ^ k)
  | 0 => by
    rw [Int.pow_zero]
    exact Nat.one_lt_two_pow (by omega)
  | k + 1 => by
    rw [Int.pow_succ]
    exact ((B.pow hx k).mul hx).up (by rw [Nat.mul_succ]; omega)
theorem B.lit {n : Nat} {x : Int} (h : x.natAbs < 2 ^ n) : B n x := h
theorem B.mulW {m n : Nat} {x y : Int} (hx : B m x) (hy : B n y) (h : m + n ≤ 900000) : CMulW x y :=
  wide_mul (hx.up (Nat.le_add_right m 1)) (hy.up (Nat.le_add_right n 1)) (by omega) (by omega) (by omega)
theorem B.mulL {n : Nat} {x y : Int} (hx : B n x) (h : n ≤ 64) : CMul x y := by
  have h1 := hx.up h
  unfold B at h1
  exact Or.inl ⟨by omega, by omega⟩
theorem B.mulR {n : Nat} {x y : Int} (hy : B n y) (h : n ≤ 64) : CMul x y := by
  have h1 := hy.up h
  unfold B at h1
  exact Or.inr ⟨by omega, by omega⟩
theorem B.log {n : Nat} {x : Int} (hx : B n x) (h : n ≤ 1900) : x.natAbs.log2 < 1920 := by
  have h1 : x.natAbs < 2 ^ 1901 := hx.up (by omega)
  exact PySem.Flt.log2_lt_of (by decide) (Nat.lt_of_lt_of_le h1 (Nat.pow_le_pow_right (by decide) (by decide)))
theorem B.between {n : Nat} {x : Int} (m : Int) (h0 : -m ≤ x) (h1 : x ≤ m) (h : m.natAbs < 2 ^ n) : B n x := by
  unfold B
  omega
theorem small {n : Nat} (h : n ≤ 1000) : n ≤ sizeLine := Nat.le_trans h (by decide)
/-! ### heaps -/
theorem Same.new {H : Hp} {p : Addr} {o : HO} (h : H p = none) : Same H (upd H p o) := fun b x e => by
  rw [upd_ne (ne_of_none e h)]
  exact e
theorem Same.put {H H1 : Hp} {p : Addr} {o : HO} (s : Same H H1) (h : H p = none) : Same H (upd H1 p o) := fun b x e => by
  rw [upd_ne (ne_of_none e h)]
  exact s b x e
theorem Same.rd {H H' : Hp} {a : Addr} {u : HO} (e : Same H H') (h : Rd H a u) : Rd H' a u := by
  rcases h with h | ⟨o, h⟩
  · exact Or.inl (e _ _ h)
  · exact Or.inr ⟨o, e _ _ h⟩
theorem Same.tup {K : PySem.W.Frag} {H H' : Hp} {a : Addr} {xs : List V} (e : Same H H') (h : SqT K H a xs) : SqT K H' a xs := by
  rcases h with h | h
  · exact Or.inl (Same.rd e h)
  · exact Or.inr h
theorem tup_of {K : PySem.W.Frag} {H : Hp} {a : Addr} {xs : List V} (h : H a = some (.tup xs)) : SqT K H a xs := Or.inl (Or.inl h)
theorem lst_of {K : PySem.W.Frag} {H : Hp} {a : Addr} {xs : List V} (h : H a = some (.lst xs)) : SqL K H a xs := Or.inl (Or.inl h)
/-- all but what stands at m is as it was -/
def But (m : Addr) (H H' : Hp) : Prop := ∀ b o, H b = some o → b ≠ m → H' b = some o
theorem But.refl (m : Addr) (H : Hp) : But m H H := fun _ _ e _ => e
theorem But.trans {m : Addr} {H H1 H2 : Hp} (a : But m H H1) (b : But m H1 H2) : But m H H2 := fun c o e n => b c o (a c o e n) n
theorem But.of {m : Addr} {H H' : Hp} (a : Same H H') : But m H H' := fun c o e _ => a c o e
theorem But.upd {m : Addr} {H : Hp} {o : HO} : But m H (upd H m o) := fun c x e n => by
  rw [upd_ne n]
  exact e
/-- the same where m was not known -/
theorem But.same {m : Addr} {H H1 H2 : Hp} (s : Same H H1) (b : But m H1 H2) (h : H m = none) : Same H H2 := fun c o e => b c o (s c o e) (ne_of_none e h)
/-- the slots said anew -/
theorem sig {nx : L2.St → Hp → Prop} {σ : L2.St} {H : Hp} (σ' : L2.St) (e : σ = σ') (h : nx σ' H) : nx σ H := e ▸ h
theorem sigN {nx : L2.St → Hp → Prop} {i : Nat} {v : V} {σ : L2.St} {H : Hp} (σ' : L2.St) (e : σ.set i (some v) = σ') (h : nx σ' H) : gName i v σ H nx := by
  subst e
  exact h
/-- a number of the module -/
theorem pe_kon {X : Cx} {x : Str} {pos : Pos} {v : V} (hg : Gl X x) (h : ∃ u, X.mg x = some u ∧ RelV v u) (hd : (x == ("__debug__" : Str)) = false := by decide) : PE X (.Name x pos) (tC v) := by
  obtain ⟨u, hm, r⟩ := h
  exact pe_glob hg hm r hd
/-- int(n) of a number -/
theorem call_intI {X : Cx} : CallR X (.type "int") (fun xs H Q => ∃ i, xs = [.int i] ∧ Q (.int i) H) := fun pins s σ H xs us Q I r h => call_int1 pins s σ H xs us Q I r (Or.inl h)
/-! ### the state of the draws: four entries -/
def mk4 (L s : Int) (c : Addr) (n : Int) : List (Key × V) := [(Sum.inr "left", .int L), (Sum.inr "seed", .int s), (Sum.inr "cells", .ref c), (Sum.inr "spot", .int n)]
theorem kn12 : ¬ (("left" : Str) = "seed") := by decide +kernel
theorem kn13 : ¬ (("left" : Str) = "cells") := by decide +kernel
theorem kn14 : ¬ (("left" : Str) = "spot") := by decide +kernel
theorem kn23 : ¬ (("seed" : Str) = "cells") := by decide +kernel
theorem kn24 : ¬ (("seed" : Str) = "spot") := by decide +kernel
theorem kn34 : ¬ (("cells" : Str) = "spot") := by decide +kernel
theorem kn21 : ¬ (("seed" : Str) = "left") := by decide +kernel
theorem kn31 : ¬ (("cells" : Str) = "left") := by decide +kernel
theorem kn41 : ¬ (("spot" : Str) = "left") := by decide +kernel
theorem kn42 : ¬ (("spot" : Str) = "seed") := by decide +kernel
theorem kn43 : ¬ (("spot" : Str) = "cells") := by decide +kernel
theorem kn32 : ¬ (("cells" : Str) = "seed") := by decide +kernel
section
variable {L s n : Int} {c : Addr}
theorem m4_left : valV (mk4 L s c n) (Sum.inr "left") = some (.int L) := by simp [valV, mk4, List.find?_cons]
theorem m4_seed : valV (mk4 L s c n) (Sum.inr "seed") = some (.int s) := by simp [valV, mk4, List.find?_cons, kn12]
theorem m4_cells : valV (mk4 L s c n) (Sum.inr "cells") = some (.ref c) := by simp [valV, mk4, List.find?_cons, kn13, kn23]
theorem m4_spot : valV (mk4 L s c n) (Sum.inr "spot") = some (.int n) := by simp [valV, mk4, List.find?_cons, kn14, kn24, kn34]
theorem m4_putL (y : Int) : putK (mk4 L s c n) (Sum.inr "left") (.int y) = mk4 y s c n := by simp [putK, mk4, kn21, kn31, kn41]
theorem m4_merge : mergeK [] (mk4 L s c n) = mk4 L s c n := by simp [mergeK, putK, mk4, List.foldl, kn12, kn13, kn14, kn23, kn24, kn34]
theorem m4_putS (y : Int) : putK (mk4 L s c n) (Sum.inr "spot") (.int y) = mk4 L s c y := by simp [putK, mk4, kn14, kn24, kn34]
end
/-- the state stands at m, with at most n draws out of the cells behind it -/
def MAt (H : Hp) (m c : Addr) (n : Nat) : Prop := ∃ (L s : Int) (cs : List Int) (k : Nat), H m = some (.dK (mk4 L s c (k : Int))) ∧ k ≤ n ∧ H c = some (.lst (cs.map V.int)) ∧ 0 < cs.length
theorem MAt.up {H : Hp} {m cl : Addr} {n n' : Nat} (h : MAt H m cl n) (k : n ≤ n') : MAt H m cl n' := by
  obtain ⟨L, s, cs, j, h1, h2, h3, h4⟩ := h
  exact ⟨L, s, cs, j, h1, Nat.le_trans h2 k, h3, h4⟩
theorem MAt.same {H H' : Hp} {m cl : Addr} {n : Nat} (h : MAt H m cl n) (e : Same H H') : MAt H' m cl n := by
  obtain ⟨L, s, cs, j, h1, h2, h3, h4⟩ := h
  exact ⟨L, s, cs, j, e _ _ h1, h2, e _ _ h3, h4⟩
theorem MAt.some {H : Hp} {m cl : Addr} {n : Nat} (h : MAt H m cl n) : ∃ kvs, H m = some (.dK kvs) := by
  obtain ⟨L, s, cs, j, h1, _⟩ := h
  exact ⟨_, h1⟩
theorem MAt.ne {H : Hp} {m cl p : Addr} {n : Nat} (h : MAt H m cl n) (e : H p = none) : m ≠ p ∧ cl ≠ p := by
  obtain ⟨L, s, cs, j, h1, h2, h3, h4⟩ := h
  exact ⟨ne_of_none h1 e, ne_of_none h3 e⟩
theorem MAt.put {H : Hp} {m cl p : Addr} {n : Nat} {o : HO} (h : MAt H m cl n) (e : m ≠ p ∧ cl ≠ p) : MAt (upd H p o) m cl n := by
  obtain ⟨L, s, cs, j, h1, h2, h3, h4⟩ := h
  refine ⟨L, s, cs, j, ?_, h2, ?_, h4⟩
  · rw [upd_ne e.1]
    exact h1
  · rw [upd_ne e.2]
    exact h3
/-- what the draws leave: fresh stays fresh -/
theorem But.free {m p cl : Addr} {H H' : Hp} {n : Nat} (b : But m H H') (h : MAt H' m cl n) (e : H' p = none) : H p = none := by
  obtain ⟨kvs, hm⟩ := h.some
  cases q : H p with
  | none => rfl
  | some o =>
    by_cases hp : p = m
    · subst hp
      rw [hm] at e
      cases e
    · rw [b p o q hp] at e
      cases e
theorem But.tup {m p cl : Addr} {H H' : Hp} {n : Nat} {xs : List V} (b : But m H H') (h : MAt H m cl n) (e : H p = some (.tup xs)) : H' p = some (.tup xs) := by
  obtain ⟨kvs, hm⟩ := h.some
  exact b p _ e (ne_of e hm (by intro z; cases z))
theorem But.lst {m p cl : Addr} {H H' : Hp} {n : Nat} {xs : List V} (b : But m H H') (h : MAt H m cl n) (e : H p = some (.lst xs)) : H' p = some (.lst xs) := by
  obtain ⟨kvs, hm⟩ := h.some
  exact b p _ e (ne_of e hm (by intro z; cases z))
theorem But.seqL {K : PySem.W.Frag} {m p cl : Addr} {H H' : Hp} {n : Nat} {xs : List V} (b : But m H H') (h : MAt H m cl n) (e : SqL K H p xs) : SqL K H' p xs := by
  obtain ⟨kvs, hm⟩ := h.some
  rcases e with (e | ⟨o, e⟩) | e
  · exact Or.inl (Or.inl (b p _ e (ne_of e hm (by intro z; cases z))))
  · exact Or.inl (Or.inr ⟨o, b p _ e (ne_of e hm (by intro z; cases z))⟩)
  · exact Or.inr e
theorem But.seqT {K : PySem.W.Frag} {m p cl : Addr} {H H' : Hp} {n : Nat} {xs : List V} (b : But m H H') (h : MAt H m cl n) (e : SqT K H p xs) : SqT K H' p xs := by
  obtain ⟨kvs, hm⟩ := h.some
  rcases e with (e | ⟨o, e⟩) | e
  · exact Or.inl (Or.inl (b p _ e (ne_of e hm (by intro z; cases z))))
  · exact Or.inl (Or.inr ⟨o, b p _ e (ne_of e hm (by intro z; cases z))⟩)
  · exact Or.inr e
/-! ### tuples -/
theorem catA_any {K : PySem.W.Frag} {H : Hp} {Q : VK} {a b : Addr} {xs ys : List V} (ha : SqT K H a xs) (hb : SqT K H b ys) (hl : xs.length + ys.length ≤ 1000) (k : ∀ p H', Same H H' → SqT K H' p (xs ++ ys) → Q (.ref p) H') : rCatA K (.ref a) (.ref b) H Q := by
  refine ⟨a, b, xs, ys, rfl, rfl, ha, hb, small hl, fun e => ?_, fun _ e => ?_, fun _ _ p hp => k p _ (Same.new hp) (tup_of upd_same)⟩
  · subst e
    exact k b H (Same.refl H) hb
  · subst e
    exact k a H (Same.refl H) (by rw [List.append_nil]; exact ha)
theorem slA_any {K : PySem.W.Frag} {H : Hp} {Q : VK} {a : Addr} {xs : List V} {lo hi : Option Int} (ha : SqT K H a xs) (k : ∀ p H', Same H H' → SqT K H' p (cutV xs lo hi) → Q (.ref p) H') : rSlA K (.ref a) lo hi H Q := by
  refine ⟨a, xs, rfl, ha, fun e => ?_, fun _ p hp => k p _ (Same.new hp) (tup_of upd_same)⟩
  refine k a H (Same.refl H) ?_
  have e2 : cutV xs lo hi = xs := by
    unfold cutV
    rw [e.1, e.2, List.drop_zero, Nat.sub_zero, List.take_length]
  rw [e2]
  exact ha
/-! ### defs by their names -/
structure Df (K : PySem.W.Frag) (mg : Str → Option Value) (x : Str) (st : Stmt) (ps : List Str) : Prop where
  ex : ∃ (f : Addr) (fd : FuncData), Fun K x x st f fd ∧ mg x = some (.ref f) ∧ Binds K fd ps []
section
variable {P : Program} {w : World} {K : PySem.W.Frag} {mg : Str → Option Value} {base : Heap} {x : Str} {st : Stmt} {N ps : List Str} {k : Nat} {sp : Sp}
theorem Kl.by_body (D : Df K mg x st ps) (S : FnScope N ps (defScope st)) (len : ∀ vs H Q E, sp vs H Q E → vs.length = ps.length)
    (hb : ∀ (f : Addr) (cdv : Value) (A : Around) (outer : List Env) (s : Shared) (H : Hp) (vs : List V) (Q : VK) (E : XK), Room k (A.deeper (envOfC x (defScope st) s.heap.objs.size f cdv)) → sp vs H Q E →
      ∃ t, PSs (cxOf CX0 P w K mg base N x (defScope st) f cdv A outer s H E).nox (defBody st) t ∧ t { nx := fun _ H' => Q .non H', rt := Q } (start N vs) H) : Kl P w K mg base (k + 1) x sp := by
  obtain ⟨f, fd, F, hm, b⟩ := D.ex
  exact ⟨f, fd, ps, F.ok S len (hb f), hm, F.kp, b⟩
theorem Kg.by_body (D : Df K mg x st ps) (S : FnScope N ps (defScope st)) (len : ∀ vs H Q E, sp vs H Q E → vs.length = ps.length)
    (hb : ∀ (f : Addr) (cdv : Value) (A : Around) (outer : List Env) (s : Shared) (H : Hp) (vs : List V) (Q : VK) (E : XK), A.guards = some [] → Room k (A.deeper (envOfC x (defScope st) s.heap.objs.size f cdv)) → sp vs H Q E →
      ∃ t, PSs (cxOf CX0 P w K mg base N x (defScope st) f cdv A outer s H E).nox (defBody st) t ∧ t { nx := fun _ H' => Q .non H', rt := Q } (start N vs) H) : Kg P w K mg base (k + 1) x sp := by
  obtain ⟨f, fd, F, hm, b⟩ := D.ex
  exact ⟨f, fd, ps, FnG.by_body F S len (hb f), hm, F.kp, b⟩
theorem df_mk {h : Heap} {f : Addr} {oc : Value} {od an : Option Addr} {osl : Array (Option Value)} {kV doc pm cdv ct : Value} (X : K.In h) (G : h.Ns mainGlobals mg) (a : PySem.W.nsIn K mainGlobals x = some (some (.ref f)))
    (l : K.lookup f = some ⟨oc, od, .func (PySem.W.fnOf x x (defArgs st) (defBody st) (defScope st) .none kV doc pm an cdv ct), osl⟩) (c : PySem.W.codeIn K cdv x = true) (kp : PySem.W.keepIn K (.ref f) = true)
    (hb : ∀ (kV doc pm : Value) (an : Option Addr) (cdv ct : Value) (us : List Value), us.length = ps.length → bindArgs (PySem.W.fnOf x x (defArgs st) (defBody st) (defScope st) .none kV doc pm an cdv ct) ⟨us, []⟩ = pure (ps.zip us)) : Df K mg x st ps :=
  ⟨f, _, fun_mk l c kp, PySem.W.mg_of X G a, (fun_mk l c kp).binds hb⟩
theorem law_fd {h : Heap} {fa f : Addr} {j : Nat} {oc : Value} {od an : Option Addr} {osl : Array (Option Value)} {kV doc pm cdv ct : Value} (X : K.In h) (G : h.Ns mainGlobals mg) (hfa : mg "law" = some (.ref fa)) (a : PySem.W.nsIn K mainGlobals "law" = some (some (.ref f)))
    (l : K.lookup f = some ⟨oc, od, .func (PySem.W.fnOf "law" "law" (defArgs st) (defBody st) (defScope st) .none kV doc pm an cdv ct), osl⟩) (c : PySem.W.codeIn K cdv "law" = true) (kp : PySem.W.keepIn K (.ref f) = true)
    (hb : ∀ (kV doc pm : Value) (an : Option Addr) (cdv ct : Value) (us : List Value), us.length = 1 → bindArgs (PySem.W.fnOf "law" "law" (defArgs st) (defBody st) (defScope st) .none kV doc pm an cdv ct) ⟨us, []⟩ = pure ((["script"] : List Str).zip us))
    (go : ∀ fd, Fun K "law" "law" st fa fd → ∀ base : Heap, FnG P w K mg base j fa fd ["script"] sp) :
    ∃ fd : FuncData, (∀ (s : Shared) (u : Value), BindsTo s fd ⟨[u], []⟩ [("script", u)]) ∧ ∀ base : Heap, K.In base → base.Ns mainGlobals mg → FnG P w K mg base j fa fd ["script"] sp := by
  have e := hfa.symm.trans (PySem.W.mg_of X G a)
  cases e
  exact ⟨_, fun s u => .of_eq (hb kV doc pm an cdv ct [u] rfl), fun base _ _ => go _ (fun_mk l c kp) base⟩
end
end Gd
set_option linter.all false
/-! fractions: plain Lean -/
namespace QM
/-- n / d in lowest terms -/
def sg (n d : Int) : Int := if d < 0 then -((Nat.gcd n.natAbs d.natAbs : Nat) : Int) else ((Nat.gcd n.natAbs d.natAbs : Nat) : Int)
theorem sg_ne {n d : Int} (h : d ≠ 0) : sg n d ≠ 0 := by
  have hp : 0 < Nat.gcd n.natAbs d.natAbs := Nat.gcd_pos_of_pos_right _ (by omega)
  unfold sg
  split <;> omega
theorem fdiv_neg' (a b : Int) : (-a).fdiv (-b) = a.fdiv b := by
  exact Int.neg_fdiv_neg a b
theorem fr_num {n d : Int} (h : d ≠ 0) : n.fdiv (sg n d) = (Rat.divInt n d).num := by
  rw [Rat.num_divInt]
  unfold sg
  have g0 : ((Int.gcd d n : Nat) : Int) = ((Nat.gcd n.natAbs d.natAbs : Nat) : Int) := by rw [Int.gcd_comm]; rfl
  split
  · rename_i e
    rw [Int.sign_eq_neg_one_of_neg e, g0, Int.neg_mul, Int.one_mul]
    have e1 : n.fdiv (-((Nat.gcd n.natAbs d.natAbs : Nat) : Int)) = (-n).fdiv ((Nat.gcd n.natAbs d.natAbs : Nat) : Int) := by
      rw [← fdiv_neg' n, Int.neg_neg]
    rw [e1, Int.fdiv_eq_ediv_of_nonneg _ (by omega)]
  · rename_i e
    rw [Int.sign_eq_one_of_pos (by omega), g0, Int.one_mul, Int.fdiv_eq_ediv_of_nonneg _ (by omega)]
theorem fr_den {n d : Int} (h : d ≠ 0) : d.fdiv (sg n d) = ((Rat.divInt n d).den : Int) := by
  rw [Rat.den_divInt, if_neg h]
  have g0 : Int.gcd d n = Nat.gcd n.natAbs d.natAbs := by rw [Int.gcd_comm]; rfl
  rw [g0]
  unfold sg
  split
  · rename_i e
    have e1 : d.fdiv (-((Nat.gcd n.natAbs d.natAbs : Nat) : Int)) = (-d).fdiv ((Nat.gcd n.natAbs d.natAbs : Nat) : Int) := by
      rw [← fdiv_neg' d, Int.neg_neg]
    rw [e1, Int.fdiv_eq_ediv_of_nonneg _ (by omega), Int.natCast_ediv]
    congr 1
    omega
  · rename_i e
    rw [Int.fdiv_eq_ediv_of_nonneg _ (by omega), Int.natCast_ediv]
    congr 1
    omega
theorem den_ne (a : Rat) : (a.den : Int) ≠ 0 := by
  have := a.den_nz
  omega
theorem denR (a : Rat) : ((a.den : Int) : Rat) ≠ 0 := by
  intro h
  exact den_ne a (by exact_mod_cast h)
theorem as_div (a : Rat) : a = (a.num : Rat) / ((a.den : Int) : Rat) := by
  rw [← Rat.divInt_eq_div, Rat.num_divInt_den]
theorem fr_add (a b : Rat) : Rat.divInt (a.num * b.den + b.num * a.den) (a.den * b.den) = a + b := by
  have ha := denR a
  have hb := denR b
  have ea := as_div a
  have eb := as_div b
  rw [Rat.divInt_eq_div, Rat.intCast_add, Rat.intCast_mul, Rat.intCast_mul, Rat.intCast_mul]
  grind
theorem fr_sub (a b : Rat) : Rat.divInt (a.num * b.den - b.num * a.den) (a.den * b.den) = a - b := by
  have ha := denR a
  have hb := denR b
  have ea := as_div a
  have eb := as_div b
  rw [Rat.divInt_eq_div, Rat.intCast_sub, Rat.intCast_mul, Rat.intCast_mul, Rat.intCast_mul]
  grind
theorem fr_mul (a b : Rat) : Rat.divInt (a.num * b.num) (a.den * b.den) = a * b := by
  have ha := denR a
  have hb := denR b
  have ea := as_div a
  have eb := as_div b
  rw [Rat.divInt_eq_div, Rat.intCast_mul, Rat.intCast_mul]
  grind
theorem num_ne {a : Rat} (h : a ≠ 0) : a.num ≠ 0 := fun e => h (Rat.num_eq_zero.mp e)
theorem fr_div (a b : Rat) (h : b ≠ 0) : Rat.divInt (a.num * b.den) (a.den * b.num) = a / b := by
  have ha := denR a
  have hb := denR b
  have ea := as_div a
  have eb := as_div b
  have hn : (b.num : Rat) ≠ 0 := fun e => num_ne h (by exact_mod_cast e)
  rw [Rat.divInt_eq_div, Rat.intCast_mul, Rat.intCast_mul]
  grind
theorem mul_ne {a b : Int} (h : a ≠ 0) (k : b ≠ 0) : a * b ≠ 0 := Int.mul_ne_zero h k
/-! sizes -/
def RB (n : Nat) (q : Rat) : Prop := q.num.natAbs < 2 ^ n ∧ (q.den : Int).natAbs < 2 ^ n
theorem RB.up {m n : Nat} {q : Rat} (h : RB m q) (k : m ≤ n) : RB n q := ⟨Nat.lt_of_lt_of_le h.1 (Nat.pow_le_pow_right (by decide) k), Nat.lt_of_lt_of_le h.2 (Nat.pow_le_pow_right (by decide) k)⟩
theorem dv_le {x g : Int} (h : g ≠ 0) (d : g ∣ x) : (x.fdiv g).natAbs ≤ x.natAbs := by
  obtain ⟨k, rfl⟩ := d
  rw [Int.mul_fdiv_cancel_left k h, Int.natAbs_mul]
  have h1 : 1 ≤ g.natAbs := by omega
  have h2 : 1 * k.natAbs ≤ g.natAbs * k.natAbs := Nat.mul_le_mul_right _ h1
  omega
theorem sg_dvd (n d : Int) : sg n d ∣ n := by
  have h : ((Nat.gcd n.natAbs d.natAbs : Nat) : Int) ∣ n := Int.ofNat_dvd_left.mpr (Nat.gcd_dvd_left _ _)
  unfold sg
  split
  · exact Int.neg_dvd.mpr h
  · exact h
theorem sg_dvd2 (n d : Int) : sg n d ∣ d := by
  have h : ((Nat.gcd n.natAbs d.natAbs : Nat) : Int) ∣ d := Int.ofNat_dvd_left.mpr (Nat.gcd_dvd_right _ _)
  unfold sg
  split
  · exact Int.neg_dvd.mpr h
  · exact h
theorem RB.of {m : Nat} {n d : Int} (h : d ≠ 0) (hn : n.natAbs < 2 ^ m) (hd : d.natAbs < 2 ^ m) : RB m (Rat.divInt n d) := by
  unfold RB
  rw [← fr_num h, ← fr_den (n := n) h]
  exact ⟨Nat.lt_of_le_of_lt (dv_le (sg_ne h) (sg_dvd n d)) hn, Nat.lt_of_le_of_lt (dv_le (sg_ne h) (sg_dvd2 n d)) hd⟩
theorem pmul {m n a b : Nat} (ha : a < 2 ^ m) (hb : b < 2 ^ n) : a * b < 2 ^ (m + n) := by
  rw [Nat.pow_add]
  rcases Nat.eq_zero_or_pos b with h | h
  · subst h
    rw [Nat.mul_zero]
    exact Nat.mul_pos (Nat.two_pow_pos m) (Nat.two_pow_pos n)
  · exact Nat.mul_lt_mul_of_lt_of_le ha (Nat.le_of_lt hb) (Nat.two_pow_pos n)
theorem RB.add {m n : Nat} {a b : Rat} (ha : RB m a) (hb : RB n b) : RB (m + n + 1) (a + b) := by
  rw [← fr_add]
  have h1 := pmul ha.1 hb.2
  have h2 := pmul ha.2 hb.1
  have h3 := pmul ha.2 hb.2
  refine RB.of (mul_ne (den_ne a) (den_ne b)) ?_ ?_
  · rw [Nat.pow_succ]
    have h4 : (a.num * ↑b.den + b.num * ↑a.den).natAbs ≤ (a.num * ↑b.den).natAbs + (b.num * ↑a.den).natAbs := Int.natAbs_add_le _ _
    rw [Int.natAbs_mul, Int.natAbs_mul, Nat.mul_comm b.num.natAbs] at h4
    omega
  · rw [Nat.pow_succ, Int.natAbs_mul]
    omega
theorem RB.neg {m : Nat} {a : Rat} (ha : RB m a) : RB m (-a) := by
  unfold RB at *
  rw [Rat.neg_num, Rat.neg_den, Int.natAbs_neg]
  exact ha
theorem RB.sub {m n : Nat} {a b : Rat} (ha : RB m a) (hb : RB n b) : RB (m + n + 1) (a - b) := by
  rw [Rat.sub_eq_add_neg]
  exact ha.add hb.neg
theorem RB.mul {m n : Nat} {a b : Rat} (ha : RB m a) (hb : RB n b) : RB (m + n) (a * b) := by
  rw [← fr_mul]
  refine RB.of (mul_ne (den_ne a) (den_ne b)) ?_ ?_
  · rw [Int.natAbs_mul]
    exact pmul ha.1 hb.1
  · rw [Int.natAbs_mul]
    exact pmul ha.2 hb.2
theorem RB.div {m n : Nat} {a b : Rat} (h : b ≠ 0) (ha : RB m a) (hb : RB n b) : RB (m + n) (a / b) := by
  rw [← fr_div a b h]
  refine RB.of (mul_ne (den_ne a) (num_ne h)) ?_ ?_
  · rw [Int.natAbs_mul]
    exact pmul ha.1 hb.2
  · rw [Int.natAbs_mul]
    exact pmul ha.2 hb.1
theorem RB.int {m : Nat} {n : Int} (h : n.natAbs < 2 ^ m) (k : 1 ≤ m) : RB m (n : Rat) := by
  unfold RB
  rw [Rat.num_intCast, Rat.den_intCast]
  exact ⟨h, Nat.lt_of_lt_of_le (by decide : 1 < 2 ^ 1) (Nat.pow_le_pow_right (by decide) k)⟩
theorem RB.pow {m : Nat} {a : Rat} (ha : RB m a) : ∀ k : Nat, RB (m * k + 1) (a ^ k)
  | 0 => by
    rw [Rat.pow_zero]
    exact RB.int (n := 1) (by rw [Nat.mul_zero]; decide) (by omega)
  | k + 1 => by
    rw [Rat.pow_succ]
    exact (RB.mul (RB.pow ha k) ha).up (by rw [Nat.mul_succ]; omega)
/-! powers -/
theorem npow (a : Rat) (k : Nat) : (a ^ k).num = a.num ^ k := Rat.num_pow a k
theorem dpow (a : Rat) (k : Nat) : (a ^ k).den = a.den ^ k := Rat.den_pow a k
theorem le_npow (a : Nat) {k : Nat} (h : 1 ≤ k) : a ≤ a ^ k := by
  rcases Nat.eq_zero_or_pos a with e | e
  · omega
  · calc a = a ^ 1 := (Nat.pow_one a).symm
      _ ≤ a ^ k := Nat.pow_le_pow_right e h
theorem RB.root {m k : Nat} {a : Rat} (h : 1 ≤ k) (ha : RB m (a ^ k)) : RB m a := by
  unfold RB at *
  rw [npow, dpow, Int.natAbs_pow] at ha
  refine ⟨Nat.lt_of_le_of_lt (le_npow _ h) ha.1, ?_⟩
  have e : ((a.den ^ k : Nat) : Int).natAbs = a.den ^ k := Int.natAbs_natCast _
  rw [e] at ha
  rw [Int.natAbs_natCast]
  exact Nat.lt_of_le_of_lt (le_npow _ h) ha.2
theorem num_pos {a : Rat} (h : 0 < a) : 0 < a.num := by
  have h1 : 0 ≤ a.num := Rat.num_nonneg.mpr (Rat.le_of_lt h)
  have h2 : a.num ≠ 0 := num_ne (fun e => by rw [e] at h; exact absurd h (by decide))
  omega
end QM
set_option Elab.async false
set_option linter.all false
set_option maxRecDepth 100000
/-! fractions as pairs of ints; promises of the sums -/
namespace Gd
open PySem PySem.Spec PyProof.Rows L2 QM
/-- // by any divisor but 0, below 2 ^ 9000 -/
def CDivAny (_ j : Int) : Prop := j ≠ 0 ∧ j.natAbs.log2 < 9000
theorem op_fdivAny {X : Cx} : OpR X (binaryOp .FloorDiv) (rI CDivAny fun i j => .int (i.fdiv j)) := opI fun _ _ _ _ _ _ _ hc q => floordiv_int hc.1 q (.inl (PyProof.noPylong_of_log2 hc.2))
theorem B.log9 {n : Nat} {x : Int} (hx : B n x) (h : n ≤ 8900) : x.natAbs.log2 < 9000 := by
  have h1 : x.natAbs < 2 ^ 8901 := hx.up (by omega)
  exact PySem.Flt.log2_lt_of (by decide) (Nat.lt_of_lt_of_le h1 (Nat.pow_le_pow_right (by decide) (by decide)))
theorem div_any {m : Nat} {i j : Int} (h : j ≠ 0) (hb : B m j) (hm : m ≤ 8900) : CDivAny i j := ⟨h, hb.log9 hm⟩
theorem gcd_B {m : Nat} {n d : Int} (h : d ≠ 0) (hb : B m d) : B m ((Nat.gcd n.natAbs d.natAbs : Nat) : Int) := by
  unfold B at *
  have h1 : Nat.gcd n.natAbs d.natAbs ≤ d.natAbs := Nat.gcd_le_right _ (by omega)
  omega
theorem sg_B {m : Nat} {n d : Int} (h : d ≠ 0) (hb : B m d) : B m (sg n d) := by
  unfold sg
  split
  · exact (gcd_B h hb).neg
  · exact gcd_B h hb
/-- a fraction's pair -/
def fq (q : Rat) : List V := [.int q.num, .int (q.den : Int)]
theorem fq_div {n d : Int} (h : d ≠ 0) : [V.int (n.fdiv (sg n d)), V.int (d.fdiv (sg n d))] = fq (Rat.divInt n d) := by
  unfold fq
  rw [fr_num h, fr_den h]
theorem fq_int (n : Int) : fq (n : Rat) = [.int n, .int 1] := by
  unfold fq
  rw [Rat.num_intCast, Rat.den_intCast]
  rfl
theorem fq_inj {a b : Rat} (h : fq a = fq b) : a = b := by
  unfold fq at h
  simp only [List.cons.injEq, V.int.injEq, and_true] at h
  exact Rat.ext h.1 (by omega)
def dq (q : Rat) : PyData := .tuple [.int q.num, .int (q.den : Int)]
theorem dp_q {K : PySem.W.Frag} {H : Hp} {p : Addr} {q : Rat} (h : SqT K H p (fq q)) : Dp K H (.ref p) (dq q) := .tup h (.cons (.int _) (.cons (.int _) .nil))
theorem dq_inj {a b : Rat} : dq a = dq b ↔ a = b := by
  constructor
  · intro h
    unfold dq at h
    simp only [PyData.tuple.injEq, List.cons.injEq, PyData.int.injEq, and_true] at h
    exact Rat.ext h.1 (by omega)
  · rintro rfl
    rfl
theorem _root_.QM.RB.n {m : Nat} {q : Rat} (h : RB m q) : B m q.num := h.1
theorem _root_.QM.RB.d {m : Nat} {q : Rat} (h : RB m q) : B m (q.den : Int) := h.2
theorem okq {m : Nat} {q : Rat} (h : RB m q) (k : m ≤ 1900) : okD (dq q) = true := by
  have h1 := B.log (RB.n h) k
  have h2 := B.log (RB.d h) k
  unfold dq
  rw [okD, okAll, okAll, okAll, okD, okD]
  rw [decide_eq_true h1, decide_eq_true h2]
  rfl
def spCut (K : PySem.W.Frag) : Sp := fun vs H Q _ => ∃ n d : Int, vs = [.int n, .int d] ∧ d ≠ 0 ∧ B 8200 n ∧ B 8200 d ∧ ∀ t, H t = none → Q (.ref t) (upd H t (.tup (fq (Rat.divInt n d))))
def spBin (ok : Rat → Rat → Prop) (op : Rat → Rat → Rat) (K : PySem.W.Frag) : Sp := fun vs H Q _ => ∃ (f g : Addr) (a b : Rat), vs = [.ref f, .ref g] ∧ SqT K H f (fq a) ∧ SqT K H g (fq b) ∧ RB 4000 a ∧ RB 4000 b ∧ ok a b ∧ ∀ t, H t = none → Q (.ref t) (upd H t (.tup (fq (op a b))))
/-- a list of fractions -/
def FrL (K : PySem.W.Frag) (H : Hp) (m : Nat) (ps : List (Addr × Rat)) : Prop := ∀ p ∈ ps, SqT K H p.1 (fq p.2) ∧ RB m p.2
def spSum (op : Rat → Rat → Rat) (e : Rat) (K : PySem.W.Frag) : Sp := fun vs H Q _ => ∃ (l : Addr) (ps : List (Addr × Rat)) (m : Nat), vs = [.ref l] ∧ SqL K H l (ps.map fun p => .ref p.1) ∧ FrL K H m ps ∧ ps.length * (m + 1) ≤ 3900 ∧ ∀ H' t, Same H H' → H t = none → H' t = some (.tup (fq (ps.foldl (fun x p => op x p.2) e))) → RB (ps.length * (m + 1) + 1) (ps.foldl (fun x p => op x p.2) e) → Q (.ref t) H'
/-- a list that is being made of the fractions of ints -/
def FrD (H : Hp) (D : Addr) (ns : List Int) (i : Nat) : Prop := ∃ L : List Addr, H D = some (.lst (L.map V.ref)) ∧ L.length = i ∧ ∀ (j : Nat) (p : Addr), L[j]? = some p → ∃ n : Int, ns[j]? = some n ∧ H p = some (.tup (fq (n : Rat)))
theorem FrD.new {H : Hp} {D : Addr} {ns : List Int} : FrD (upd H D (.lst [])) D ns 0 := ⟨[], upd_same, rfl, fun j p h => by simp at h⟩
theorem FrD.push {H : Hp} {D t : Addr} {ns : List Int} {i : Nat} {n : Int} (h : FrD H D ns i) (hi : ns[i]? = some n) (nt : H t = none) (hl : i < 1000) :
    ∃ acc, (upd H t (.tup (fq (n : Rat)))) D = some (.lst acc) ∧ acc.length < sizeLine ∧ FrD (upd (upd H t (.tup (fq (n : Rat)))) D (.lst (acc ++ [.ref t]))) D ns (i + 1) := by
  obtain ⟨L, h1, h2, h3⟩ := h
  have hDt : D ≠ t := ne_of_none h1 nt
  refine ⟨L.map V.ref, by rw [upd_ne hDt]; exact h1, by rw [List.length_map]; exact small1000 (by omega), L ++ [t], ?_, by rw [List.length_append, h2]; rfl, fun j p hj => ?_⟩
  · rw [upd_same, List.map_append]
    rfl
  · rcases Nat.lt_or_ge j L.length with z | z
    · rw [List.getElem?_append_left z] at hj
      obtain ⟨m, hm, hp⟩ := h3 j p hj
      refine ⟨m, hm, ?_⟩
      have hpD : p ≠ D := ne_of hp h1 (by intro z; cases z)
      rw [upd_ne hpD, upd_ne (ne_of_none hp nt)]
      exact hp
    · rw [List.getElem?_append_right z] at hj
      have e : j - L.length = 0 := by
        rcases Nat.eq_zero_or_pos (j - L.length) with q | q
        · exact q
        · rw [List.getElem?_eq_none (by simp; omega)] at hj
          cases hj
      rw [e] at hj
      obtain rfl := Option.some.inj hj
      have ej : j = i := by omega
      refine ⟨n, by rw [ej]; exact hi, ?_⟩
      rw [upd_ne (fun q => hDt q.symm), upd_same]
theorem FrD.five {H : Hp} {D : Addr} {a b c d e : Int} (h : FrD H D [a, b, c, d, e] 5) : ∃ p1 p2 p3 p4 p5, H D = some (.lst [.ref p1, .ref p2, .ref p3, .ref p4, .ref p5]) ∧ H p1 = some (.tup (fq (a : Rat))) ∧ H p2 = some (.tup (fq (b : Rat))) ∧ H p3 = some (.tup (fq (c : Rat))) ∧ H p4 = some (.tup (fq (d : Rat))) ∧ H p5 = some (.tup (fq (e : Rat))) := by
  obtain ⟨L, h1, h2, h3⟩ := h
  match L, h2 with
  | [p1, p2, p3, p4, p5], _ =>
    have g : ∀ (j : Nat) (p : Addr) (n : Int), [p1, p2, p3, p4, p5][j]? = some p → [a, b, c, d, e][j]? = some n → H p = some (.tup (fq (n : Rat))) := fun j p n x y => by
      obtain ⟨m, hm, hp⟩ := h3 j p x
      rw [y] at hm
      obtain rfl := Option.some.inj hm
      exact hp
    exact ⟨p1, p2, p3, p4, p5, h1, g 0 _ _ rfl rfl, g 1 _ _ rfl rfl, g 2 _ _ rfl rfl, g 3 _ _ rfl rfl, g 4 _ _ rfl rfl⟩
/-! what stands of fractions in the heap -/
def FrE (K : PySem.W.Frag) (H : Hp) (es : List (Addr × Rat × Nat)) : Prop := ∀ x ∈ es, SqT K H x.1 (fq x.2.1) ∧ RB x.2.2 x.2.1
section
variable {K : PySem.W.Frag} {H H' : Hp} {es : List (Addr × Rat × Nat)} {p r : Addr} {a b : Rat} {m n : Nat} {Q : VK} {Z : XK}
theorem FrE.nil : FrE K H [] := fun x h => by cases h
theorem FrE.same (h : FrE K H es) (s : Same H H') : FrE K H' es := fun x k => ⟨Same.tup s (h x k).1, (h x k).2⟩
theorem FrE.get (h : FrE K H es) (k : (p, a, m) ∈ es) : SqT K H p (fq a) := (h _ k).1
theorem FrE.rb (h : FrE K H es) (k : (p, a, m) ∈ es) : RB m a := (h _ k).2
theorem FrE.add (h : FrE K H es) (k : SqT K H p (fq a)) (b : RB m a) : FrE K H ((p, a, m) :: es) := fun x z => by
  rcases List.mem_cons.mp z with rfl | z
  · exact ⟨k, b⟩
  · exact h x z
theorem FrE.re (h : FrE K H ((p, a, m) :: es)) (e : a = b) (k : RB n b) : FrE K H ((p, b, n) :: es) := fun x z => by
  subst e
  rcases List.mem_cons.mp z with rfl | z
  · exact ⟨(h _ List.mem_cons_self).1, k⟩
  · exact h x (List.mem_cons_of_mem _ z)
theorem FrE.sub {fs : List (Addr × Rat × Nat)} (h : FrE K H es) (k : ∀ x ∈ fs, x ∈ es) : FrE K H fs := fun x z => h x (k x z)
theorem stepE (E : FrE K H es) {t : Addr} (n : H t = none) {c : Rat} {k : Nat} (hb : RB k c) : ∃ H', upd H t (.tup (fq c)) = H' ∧ Same H H' ∧ FrE K H' ((t, c, k) :: es) :=
  ⟨_, rfl, Same.new n, (E.same (Same.new n)).add (tup_of upd_same) hb⟩
theorem litE (E : FrE K H es) {t : Addr} (n : H t = none) {vs : List V} {c : Rat} {k : Nat} (e : vs = fq c) (hb : RB k c) : ∃ H', upd H t (.tup vs) = H' ∧ Same H H' ∧ FrE K H' ((t, c, k) :: es) := by
  subst e
  exact stepE E n hb
theorem FrL.nil {M : Nat} : FrL K H M [] := fun x h => by cases h
theorem FrL.cons {M : Nat} {ps : List (Addr × Rat)} (E : FrE K H es) (k : (p, a, m) ∈ es) (hm : m ≤ M) (h : FrL K H M ps) : FrL K H M ((p, a) :: ps) := fun x z => by
  rcases List.mem_cons.mp z with rfl | z
  · exact ⟨E.get k, (E.rb k).up hm⟩
  · exact h x z
end
mutual
theorem dp_same {K : PySem.W.Frag} {H H' : Hp} (s : Same H H') : ∀ (d : PyData) (v : V), Dp K H v d → Dp K H' v d
  | .none, _, h => by
    cases h
    exact .non
  | .bool _, _, h => by
    cases h
    exact .bl _
  | .int _, _, h => by
    cases h
    exact .int _
  | .str _, _, h => by
    cases h
    exact .str _
  | .list ds, _, h => by
    cases h with
    | lst h1 h2 => exact .lst (s.seq h1) (dp_sameAll s ds _ h2)
  | .tuple ds, _, h => by
    cases h with
    | tup h1 h2 => exact .tup (Same.tup s h1) (dp_sameAll s ds _ h2)
  | .dict _, _, h => by cases h
theorem dp_sameAll {K : PySem.W.Frag} {H H' : Hp} (s : Same H H') : ∀ (ds : List PyData) (vs : List V), DpAll K H vs ds → DpAll K H' vs ds
  | [], _, h => by
    cases h
    exact .nil
  | d :: ds, _, h => by
    cases h with
    | cons h1 h2 => exact .cons (dp_same s d _ h1) (dp_sameAll s ds _ h2)
end
/-- a list's cell is no tuple's -/
theorem tup_put {K : PySem.W.Frag} {H : Hp} {D p : Addr} {L xs : List V} {o : HO} (hD : H D = some (.lst L)) (e : SqT K H p xs) : SqT K (upd H D o) p xs := by
  rcases e with (e | ⟨z, e⟩) | e
  · refine Or.inl (Or.inl ?_)
    rw [upd_ne (ne_of e hD (by intro z; cases z))]
    exact e
  · refine Or.inl (Or.inr ⟨z, ?_⟩)
    rw [upd_ne (ne_of e hD (by intro z; cases z))]
    exact e
  · exact Or.inr e
mutual
def noL : PyData → Bool
  | .list _ => false
  | .tuple ds => noLAll ds
  | .dict _ => false
  | _ => true
def noLAll : List PyData → Bool
  | [] => true
  | d :: ds => noL d && noLAll ds
end
mutual
theorem dp_put {K : PySem.W.Frag} {H : Hp} {D : Addr} {L : List V} {o : HO} (hD : H D = some (.lst L)) : ∀ (d : PyData) (v : V), noL d = true → Dp K H v d → Dp K (upd H D o) v d
  | .none, _, _, h => by
    cases h
    exact .non
  | .bool _, _, _, h => by
    cases h
    exact .bl _
  | .int _, _, _, h => by
    cases h
    exact .int _
  | .str _, _, _, h => by
    cases h
    exact .str _
  | .list ds, _, n, h => by
    rw [noL] at n
    cases n
  | .tuple ds, _, n, h => by
    rw [noL] at n
    cases h with
    | tup h1 h2 => exact .tup (tup_put hD h1) (dp_putAll hD ds _ n h2)
  | .dict _, _, _, h => by cases h
theorem dp_putAll {K : PySem.W.Frag} {H : Hp} {D : Addr} {L : List V} {o : HO} (hD : H D = some (.lst L)) : ∀ (ds : List PyData) (vs : List V), noLAll ds = true → DpAll K H vs ds → DpAll K (upd H D o) vs ds
  | [], _, _, h => by
    cases h
    exact .nil
  | d :: ds, _, n, h => by
    rw [noLAll, Bool.and_eq_true] at n
    cases h with
    | cons h1 h2 => exact .cons (dp_put hD d _ n.1 h1) (dp_putAll hD ds _ n.2 h2)
end
end Gd
set_option linter.all false
/-! roots: plain Lean -/
namespace QM
theorem dvd_pow' (a : Nat) {k : Nat} (h : k ≠ 0) : a ∣ a ^ k := by
  obtain ⟨j, rfl⟩ := Nat.exists_eq_succ_of_ne_zero h
  rw [Nat.pow_succ]
  exact Nat.dvd_mul_left a _
theorem ipow_le {a b : Int} (ha : 0 ≤ a) (h : a ≤ b) (k : Nat) : a ^ k ≤ b ^ k := by
  have h1 : a.natAbs ^ k ≤ b.natAbs ^ k := Nat.pow_le_pow_left (by omega) k
  rw [← Int.natAbs_pow, ← Int.natAbs_pow] at h1
  have h2 : 0 ≤ a ^ k := Int.pow_nonneg ha
  have h3 : 0 ≤ b ^ k := Int.pow_nonneg (by omega)
  omega
theorem pow_inj {a b k : Nat} (h : k ≠ 0) (e : a ^ k = b ^ k) : a = b := by
  rcases Nat.lt_trichotomy a b with x | x | x
  · have := Nat.pow_lt_pow_left x h
    omega
  · exact x
  · have := Nat.pow_lt_pow_left x h
    omega
theorem ipow_inj {a b : Int} {k : Nat} (h : k ≠ 0) (ha : 0 ≤ a) (hb : 0 ≤ b) (e : a ^ k = b ^ k) : a = b := by
  have h1 : a.natAbs ^ k = b.natAbs ^ k := by rw [← Int.natAbs_pow, ← Int.natAbs_pow, e]
  have := pow_inj h h1
  omega
theorem qpow_inj {a b : Rat} {k : Nat} (h : k ≠ 0) (ha : 0 < a) (hb : 0 < b) (e : a ^ k = b ^ k) : a = b := by
  have h1 := num_pos ha
  have h2 := num_pos hb
  have e1 : a.num ^ k = b.num ^ k := by rw [← npow, ← npow, e]
  have e2 : a.den ^ k = b.den ^ k := by rw [← dpow, ← dpow, e]
  exact Rat.ext (ipow_inj h (by omega) (by omega) e1) (pow_inj h e2)
/-- the root of a fraction from those of its parts -/
theorem rootQ {k : Nat} (hk : k ≠ 0) {q : Rat} {s t : Int} (hs0 : 0 < s) (ht0 : 0 < t) (hs : s ^ k = q.num) (ht : t ^ k = (q.den : Int)) : ∃ r : Rat, 0 < r ∧ r ^ k = q ∧ r.num = s ∧ (r.den : Int) = t := by
  have e1 : s.natAbs ^ k = q.num.natAbs := by rw [← Int.natAbs_pow, hs]
  have e2 : t.natAbs ^ k = q.den := by
    have h : (t ^ k).natAbs = ((q.den : Int)).natAbs := by rw [ht]
    rw [Int.natAbs_pow, Int.natAbs_natCast] at h
    exact h
  have hc : Nat.Coprime s.natAbs t.natAbs := by
    have c : Nat.Coprime (s.natAbs ^ k) (t.natAbs ^ k) := by
      rw [e1, e2]
      exact q.reduced
    have d1 : s.natAbs ∣ s.natAbs ^ k := dvd_pow' _ hk
    have d2 : t.natAbs ∣ t.natAbs ^ k := dvd_pow' _ hk
    exact Nat.Coprime.coprime_dvd_left d1 (Nat.Coprime.coprime_dvd_right d2 c)
  have hz : t.natAbs ≠ 0 := by omega
  refine ⟨⟨s, t.natAbs, hz, hc⟩, ?_, ?_, rfl, by show ((t.natAbs : Nat) : Int) = t; omega⟩
  · have h1 : (0 : Rat) ≤ ⟨s, t.natAbs, hz, hc⟩ := Rat.num_nonneg.mp (by show 0 ≤ s; omega)
    have h2 : (⟨s, t.natAbs, hz, hc⟩ : Rat) ≠ 0 := fun e => by
      have h3 : s = 0 := congrArg Rat.num e
      omega
    exact Rat.lt_of_le_of_ne h1 (fun e => h2 e.symm)
  · refine Rat.ext ?_ ?_
    · rw [npow]
      exact hs
    · rw [dpow]
      exact e2
/-- Newton's step -/
theorem mono {r s : Int} (hr : 0 ≤ r) (hs : 0 ≤ s) (k : Nat) : r * s ^ k + s * r ^ k ≤ r * r ^ k + s * s ^ k := by
  have key : 0 ≤ (r ^ k - s ^ k) * (r - s) := by
    rcases Int.le_total r s with h | h
    · have h1 : r ^ k ≤ s ^ k := ipow_le hr h k
      have := Int.mul_nonneg (show 0 ≤ s ^ k - r ^ k by omega) (show 0 ≤ s - r by omega)
      grind
    · have h1 : s ^ k ≤ r ^ k := ipow_le hs h k
      exact Int.mul_nonneg (by omega) (by omega)
  grind
theorem amgm {r s : Int} (hr : 0 ≤ r) (hs : 0 ≤ s) : ∀ k : Nat, ((k : Int) + 1) * s * r ^ k ≤ (k : Int) * (r * r ^ k) + s * s ^ k
  | 0 => by simp
  | k + 1 => by
    have h1 := amgm hr hs k
    have h2 := mono hr hs (k + 1)
    have h3 := Int.mul_le_mul_of_nonneg_left h1 hr
    rw [Int.pow_succ, Int.pow_succ] at *
    push_cast
    grind
theorem newton_ge {n r s : Int} {k : Nat} (hr : 1 ≤ r) (hs : 0 ≤ s) (h : s ^ (k + 1) ≤ n) : s ≤ ((k : Int) * r + n.fdiv (r ^ k)).fdiv ((k : Int) + 1) := by
  have hp : 0 < r ^ k := Int.pow_pos (by omega)
  have h1 := amgm (show 0 ≤ r by omega) hs k
  rw [Int.pow_succ] at h
  rw [Int.fdiv_eq_ediv_of_nonneg _ (Int.le_of_lt hp), Int.fdiv_eq_ediv_of_nonneg _ (by omega)]
  rw [Int.le_ediv_iff_mul_le (by omega)]
  have h2 : ((k : Int) + 1) * s - k * r ≤ n / r ^ k := by
    rw [Int.le_ediv_iff_mul_le hp]
    grind
  grind
theorem newton_le {n r : Int} {k : Nat} (hr : 1 ≤ r) (h : r ≤ ((k : Int) * r + n.fdiv (r ^ k)).fdiv ((k : Int) + 1)) : r ^ (k + 1) ≤ n := by
  have hp : 0 < r ^ k := Int.pow_pos (by omega)
  rw [Int.fdiv_eq_ediv_of_nonneg _ (Int.le_of_lt hp), Int.fdiv_eq_ediv_of_nonneg _ (by omega)] at h
  rw [Int.le_ediv_iff_mul_le (by omega)] at h
  have h2 : r ≤ n / r ^ k := by grind
  rw [Int.le_ediv_iff_mul_le hp] at h2
  rw [Int.pow_succ]
  grind
theorem start_ge {n s : Int} {k b : Nat} (hs : 0 ≤ s) (hb : n.natAbs < 2 ^ b) (hk : 0 < k) (h : s ^ k ≤ n) : s ≤ 1 * 2 ^ (b / k + 1) := by
  rw [Int.one_mul]
  rcases Int.le_total s (2 ^ (b / k + 1)) with z | z
  · exact z
  · exfalso
    have h1 : ((2 : Int) ^ (b / k + 1)) ^ k ≤ s ^ k := ipow_le (Int.le_of_lt (Int.pow_pos (by decide))) z k
    rw [← Int.pow_mul] at h1
    have h2 : b ≤ (b / k + 1) * k := by
      have := Nat.lt_div_mul_add (a := b) hk
      rw [Nat.add_mul, Nat.one_mul]
      omega
    have h3 : (2 : Nat) ^ b ≤ 2 ^ ((b / k + 1) * k) := Nat.pow_le_pow_right (by decide) h2
    have h4 : ((2 ^ b : Nat) : Int) ≤ ((2 ^ ((b / k + 1) * k) : Nat) : Int) := Int.ofNat_le.mpr h3
    rw [Int.natCast_pow, Int.natCast_pow] at h4
    have h5 : ((n.natAbs : Nat) : Int) < ((2 ^ b : Nat) : Int) := Int.ofNat_lt.mpr hb
    rw [Int.natCast_pow] at h5
    have e2 : ((2 : Nat) : Int) = 2 := rfl
    rw [e2] at h4 h5
    omega
theorem small_root {n s : Int} {k : Nat} (hs : 0 ≤ s) (hk : 1 ≤ k) (h : s ^ k ≤ n) : s ≤ n := by
  have h1 := le_npow s.natAbs hk
  have h2 : (s ^ k).natAbs = s.natAbs ^ k := Int.natAbs_pow s k
  have h3 : 0 ≤ s ^ k := Int.pow_nonneg hs
  omega
theorem pow01 {n : Int} (h0 : 0 ≤ n) (h2 : n < 2) {k : Nat} (hk : 1 ≤ k) : n ^ k ≤ n := by
  obtain ⟨j, rfl⟩ : ∃ j, k = j + 1 := ⟨k - 1, by omega⟩
  have e : n = 0 ∨ n = 1 := by omega
  rcases e with rfl | rfl
  · rw [Int.pow_succ, Int.mul_zero]
    exact Int.le_refl _
  · rw [Int.one_pow]
    exact Int.le_refl _
/-- the scale between two pairs -/
def U (c4 c6 e4 e6 : Int) (u : Rat) : Prop := 0 < u ∧ u ^ 4 * (e4 : Rat) = (c4 : Rat) ∧ u ^ 6 * (e6 : Rat) = (c6 : Rat)
theorem cz {a : Int} : (a : Rat) = 0 ↔ a = 0 := by
  constructor
  · intro h
    exact_mod_cast h
  · rintro rfl
    rfl
theorem pp {u : Rat} (h : 0 < u) (k : Nat) : u ^ k ≠ 0 := fun e => by
  have h1 := Rat.pow_pos (n := k) h
  rw [e] at h1
  exact absurd h1 (by decide)
theorem U.z4 {c4 c6 e4 e6 : Int} {u : Rat} (h : U c4 c6 e4 e6 u) : c4 = 0 ↔ e4 = 0 := by
  obtain ⟨h0, h1, h2⟩ := h
  have := pp h0 4
  rw [← cz, ← cz (a := e4), ← h1]
  grind
theorem U.z6 {c4 c6 e4 e6 : Int} {u : Rat} (h : U c4 c6 e4 e6 u) : c6 = 0 ↔ e6 = 0 := by
  obtain ⟨h0, h1, h2⟩ := h
  have := pp h0 6
  rw [← cz, ← cz (a := e6), ← h2]
  grind
theorem U.uniq {c4 c6 e4 e6 : Int} {u v : Rat} (z : e4 ≠ 0 ∨ e6 ≠ 0) (h : U c4 c6 e4 e6 u) (k : U c4 c6 e4 e6 v) : u = v := by
  obtain ⟨h0, h1, h2⟩ := h
  obtain ⟨k0, k1, k2⟩ := k
  rcases z with z | z
  · have z' : (e4 : Rat) ≠ 0 := fun e => z (cz.mp e)
    exact qpow_inj (k := 4) (by decide) h0 k0 (by grind)
  · have z' : (e6 : Rat) ≠ 0 := fun e => z (cz.mp e)
    exact qpow_inj (k := 6) (by decide) h0 k0 (by grind)
theorem U.p4 {c4 c6 e4 e6 : Int} {u : Rat} (z : e4 ≠ 0) (h : U c4 c6 e4 e6 u) : u ^ 4 = Rat.divInt c4 e4 := by
  obtain ⟨h0, h1, h2⟩ := h
  have z' : (e4 : Rat) ≠ 0 := fun e => z (cz.mp e)
  rw [Rat.divInt_eq_div]
  grind
theorem U.p6 {c4 c6 e4 e6 : Int} {u : Rat} (z : e6 ≠ 0) (h : U c4 c6 e4 e6 u) : u ^ 6 = Rat.divInt c6 e6 := by
  obtain ⟨h0, h1, h2⟩ := h
  have z' : (e6 : Rat) ≠ 0 := fun e => z (cz.mp e)
  rw [Rat.divInt_eq_div]
  grind
theorem U.p2 {c4 c6 e4 e6 : Int} {u : Rat} (z4 : c4 ≠ 0) (z6 : e6 ≠ 0) (h : U c4 c6 e4 e6 u) : u ^ 2 = Rat.divInt (c6 * e4) (e6 * c4) := by
  obtain ⟨h0, h1, h2⟩ := h
  have z6' : (e6 : Rat) ≠ 0 := fun e => z6 (cz.mp e)
  have z4' : (c4 : Rat) ≠ 0 := fun e => z4 (cz.mp e)
  have := pp h0 4
  rw [Rat.divInt_eq_div, Rat.intCast_mul, Rat.intCast_mul]
  have e : (c6 : Rat) * e4 = u ^ 2 * (e6 * c4) := by
    rw [← h1, ← h2]
    grind
  grind
theorem U.of4 {c4 e4 : Int} {u : Rat} (z : e4 ≠ 0) (h0 : 0 < u) (h : u ^ 4 = Rat.divInt c4 e4) : U c4 0 e4 0 u := by
  have z' : (e4 : Rat) ≠ 0 := fun e => z (cz.mp e)
  rw [Rat.divInt_eq_div] at h
  refine ⟨h0, by grind, by grind⟩
theorem U.of6 {c6 e6 : Int} {u : Rat} (z : e6 ≠ 0) (h0 : 0 < u) (h : u ^ 6 = Rat.divInt c6 e6) : U 0 c6 0 e6 u := by
  have z' : (e6 : Rat) ≠ 0 := fun e => z (cz.mp e)
  rw [Rat.divInt_eq_div] at h
  refine ⟨h0, by grind, by grind⟩
theorem U.of2 {c4 c6 e4 e6 : Int} {u : Rat} (z4 : c4 ≠ 0) (y4 : e4 ≠ 0) (z6 : e6 ≠ 0) (h0 : 0 < u) (h : u ^ 2 = Rat.divInt (c6 * e4) (e6 * c4)) : U c4 c6 e4 e6 u ↔ (u.num * u.num) * (u.num * u.num) * e4 = (u.den * u.den) * (u.den * u.den) * c4 := by
  have z6' : (e6 : Rat) ≠ 0 := fun e => z6 (cz.mp e)
  have z4' : (c4 : Rat) ≠ 0 := fun e => z4 (cz.mp e)
  have y4' : (e4 : Rat) ≠ 0 := fun e => y4 (cz.mp e)
  have hd := denR u
  have hu := as_div u
  rw [Rat.divInt_eq_div, Rat.intCast_mul, Rat.intCast_mul] at h
  have k : u ^ 4 * (e4 : Rat) = c4 ↔ (u.num * u.num) * (u.num * u.num) * e4 = ((u.den : Int) * u.den) * (u.den * u.den) * c4 := by
    rw [← Rat.intCast_inj]
    simp only [Rat.intCast_mul]
    constructor
    · intro e
      grind
    · intro e
      grind
  constructor
  · rintro ⟨_, h1, _⟩
    exact k.mp h1
  · intro e
    have h1 := k.mpr e
    refine ⟨h0, h1, ?_⟩
    have h3 : u ^ 6 = u ^ 4 * u ^ 2 := by grind
    have h5 : (e6 : Rat) * c4 ≠ 0 := fun e => by
      rcases Rat.mul_eq_zero.mp e with e | e
      · exact z6' e
      · exact z4' e
    have h6 : u ^ 2 * ((e6 : Rat) * c4) = c6 * e4 := by
      rw [h]
      grind
    have h7 : u ^ 6 * e6 * c4 = c6 * c4 := by
      rw [h3]
      have : u ^ 4 * u ^ 2 * e6 * c4 = u ^ 4 * (u ^ 2 * (e6 * c4)) := by grind
      rw [this, h6, ← h1]
      grind
    grind
theorem div_ne {n d : Int} (h : n ≠ 0) (k : d ≠ 0) : Rat.divInt n d ≠ 0 := fun e => by
  have hn : (n : Rat) ≠ 0 := fun e => h (cz.mp e)
  have hd : (d : Rat) ≠ 0 := fun e => k (cz.mp e)
  rw [Rat.divInt_eq_div] at e
  grind
theorem qpos {u : Rat} (h : 0 < u) (k : Nat) : 0 < u ^ k := Rat.pow_pos h
theorem U.pos6 {c4 c6 e4 e6 : Int} {u : Rat} (z : e6 ≠ 0) (h : U c4 c6 e4 e6 u) : 0 < (Rat.divInt c6 e6).num := by
  rw [← U.p6 z h]
  exact num_pos (qpos h.1 6)
theorem U.pos4 {c4 c6 e4 e6 : Int} {u : Rat} (z : e4 ≠ 0) (h : U c4 c6 e4 e6 u) : 0 < c4 * e4 := by
  have h1 : 0 < (Rat.divInt c4 e4).num := by
    rw [← U.p4 z h]
    exact num_pos (qpos h.1 4)
  rw [Rat.num_divInt] at h1
  have h2 : 0 < e4.sign * c4 := by
    have hg : (0 : Int) < ((Int.gcd e4 c4 : Nat) : Int) := by
      have := Int.gcd_pos_of_ne_zero_left c4 z
      omega
    have h3 := (Int.le_ediv_iff_mul_le (a := 1) (b := e4.sign * c4) hg).mp (by omega)
    omega
  rcases Int.lt_trichotomy e4 0 with y | y | y
  · rw [Int.sign_eq_neg_one_of_neg y] at h2
    exact Int.mul_pos_of_neg_of_neg (by omega) y
  · exact absurd y z
  · rw [Int.sign_eq_one_of_pos y] at h2
    exact Int.mul_pos (by omega) y
theorem U.sq4 {c4 c6 e4 e6 : Int} {u r : Rat} (z : e4 ≠ 0) (h : U c4 c6 e4 e6 u) (r0 : 0 < r) (re : r ^ 2 = Rat.divInt c4 e4) : u ^ 2 = r := by
  refine qpow_inj (k := 2) (by decide) (qpos h.1 2) r0 ?_
  rw [re, ← U.p4 z h]
  grind
theorem U.sq4' {c4 c6 e4 e6 : Int} {u : Rat} (z : e4 ≠ 0) (h : U c4 c6 e4 e6 u) : (u ^ 2) ^ 2 = Rat.divInt c4 e4 := by
  rw [← U.p4 z h]
  grind
theorem U.cb6 {c4 c6 e4 e6 : Int} {u r : Rat} (z : e6 ≠ 0) (h : U c4 c6 e4 e6 u) (r0 : 0 < r) (re : r ^ 3 = Rat.divInt c6 e6) : u ^ 2 = r := by
  refine qpow_inj (k := 3) (by decide) (qpos h.1 2) r0 ?_
  rw [re, ← U.p6 z h]
  grind
theorem U.cb6' {c4 c6 e4 e6 : Int} {u : Rat} (z : e6 ≠ 0) (h : U c4 c6 e4 e6 u) : (u ^ 2) ^ 3 = Rat.divInt c6 e6 := by
  rw [← U.p6 z h]
  grind
theorem U.iff {c4 c6 e4 e6 : Int} {u : Rat} (h : 0 < u) : U c4 c6 e4 e6 u ↔ (e6 : Rat) * u ^ 6 = (c6 : Rat) ∧ (e4 : Rat) * u ^ 4 = (c4 : Rat) := by
  unfold U
  constructor
  · rintro ⟨_, h1, h2⟩
    exact ⟨by grind, by grind⟩
  · rintro ⟨h1, h2⟩
    exact ⟨h, by grind, by grind⟩
end QM
set_option Elab.async false
set_option linter.all false
set_option maxRecDepth 100000
namespace L2
open PySem PySem.Spec PyProof.Rows
section
variable {X : Cx}
def rIsqrt : List V → Hp → VK → Prop := fun vs H Q => ∃ a : Int, vs = [.int a] ∧ 0 ≤ a ∧ a.natAbs < 2 ^ 4000 ∧ Q (.int ((Float64.isqrt a.toNat : Nat) : Int)) H
theorem isq_int1 {i : Int} {us : List Value} (r : Vals [V.int i] us) : ∃ t, us = [Value.int i t] := by
  obtain ⟨t, u, h⟩ := Vals.int2 (i := i) (j := i) (us := us ++ us) (by
    cases r with
    | cons a b => cases b; exact .cons a (.cons a .nil))
  match us, h with
  | [_], h => exact ⟨t, by simp at h; rw [h.1]⟩
  | [], h => simp at h
  | _ :: _ :: _, h => simp at h
theorem cr_isqrt : CallR X (.builtin "math.isqrt") rIsqrt := by
  intro pins s σ H vs us Q I r h
  obtain ⟨a, rfl, h0, h1, q⟩ := h
  obtain ⟨t, rfl⟩ := isq_int1 r
  have hl : a.toNat.log2 ≤ 3999 := PySem.W.mg_log (k := 3999) (by rw [show a.toNat = a.natAbs by omega]; exact h1)
  exact call_function_meets PySem.W.MGF.kind_isqrt PySem.W.MGF.plain_isqrt PySem.W.MGF.entry_isqrt (PySem.W.MGF.args_isqrt _) (PySem.W.mg_run_isqrt a t (by omega) (by omega) (by omega)).meets ⟨.int _, H, I.tok _, ⟨_, rfl⟩, q⟩
end
end L2
namespace QM
/-- the whole root of a number -/
theorem isqrt_is {n : Int} (h : 0 ≤ n) : ((PySem.Float64.isqrt n.toNat : Nat) : Int) * ((PySem.Float64.isqrt n.toNat : Nat) : Int) ≤ n ∧ ∀ s : Int, 0 ≤ s → s * s ≤ n → s ≤ ((PySem.Float64.isqrt n.toNat : Nat) : Int) := by
  obtain ⟨a, b⟩ := PySem.Float64.isqrt_spec n.toNat
  generalize PySem.Float64.isqrt n.toNat = q at a b
  have e : ((n.toNat : Nat) : Int) = n := Int.toNat_of_nonneg h
  have a' : (q : Int) * q ≤ n := by rw [← e]; exact_mod_cast a
  have b' : n < ((q : Int) + 1) * (q + 1) := by rw [← e]; exact_mod_cast b
  refine ⟨a', fun s hs h1 => ?_⟩
  rcases (show (q : Int) < s ∨ s ≤ q by omega) with z | z
  · exfalso
    have := Int.mul_le_mul (show (q : Int) + 1 ≤ s by omega) (show (q : Int) + 1 ≤ s by omega) (by omega) hs
    omega
  · exact z
end QM
set_option linter.all false
/-! points of y y = x x x + a x x + b x + c over the fractions: plain Lean -/
namespace EcM
open QM
structure Ec where
  a : Int
  b : Int
  c : Int
abbrev Pt := Option (Rat × Rat)
def Ec.f (e : Ec) (x : Rat) : Rat := x * x * x + (e.a : Rat) * x * x + (e.b : Rat) * x + (e.c : Rat)
def On (e : Ec) : Pt → Prop
  | none => True
  | some (x, y) => y * y = e.f x
def neg : Pt → Pt
  | none => none
  | some (x, y) => some (x, -y)
/-- the slope -/
def slo (e : Ec) (x y u v : Rat) : Rat := if x = u ∧ y = v then (3 * (x * x) + (((2 * e.a : Int) : Rat) * x + (e.b : Rat))) / (2 * y) else (v - y) / (u - x)
def px (e : Ec) (k x u : Rat) : Rat := k * k - (e.a : Rat) - x - u
def sum (e : Ec) : Pt → Pt → Pt
  | none, Q => Q
  | some P, none => some P
  | some (x, y), some (u, v) => if x = u ∧ -y = v then none else
      some (px e (slo e x y u v) x u, -(y + slo e x y u v * (px e (slo e x y u v) x u - x)))
theorem On.neg {e : Ec} {P : Pt} (h : On e P) : On e (neg P) := by
  match P, h with
  | none, _ => trivial
  | some (x, y), h =>
    show -y * -y = e.f x
    have h' : y * y = e.f x := h
    grind
theorem same_x {e : Ec} {x y v : Rat} (h : y * y = e.f x) (k : v * v = e.f x) : y = v ∨ -y = v := by
  have h1 : (y - v) * (y + v) = 0 := by grind
  rcases Rat.mul_eq_zero.mp h1 with z | z
  · left; grind
  · right; grind
theorem sl_dbl {e : Ec} {x y : Rat} : slo e x y x y = (3 * (x * x) + (((2 * e.a : Int) : Rat) * x + (e.b : Rat))) / (2 * y) := if_pos ⟨rfl, rfl⟩
theorem sl_two {e : Ec} {x y u v : Rat} (h : ¬ (x = u ∧ y = v)) : slo e x y u v = (v - y) / (u - x) := if_neg h
/-- what the slope is, without a fraction -/
theorem slope_is {e : Ec} {x y u v : Rat} (h : y * y = e.f x) (k : v * v = e.f u) (n : ¬ (x = u ∧ -y = v)) :
    (x ≠ u ∧ slo e x y u v * (u - x) = v - y) ∨ (x = u ∧ y = v ∧ y ≠ 0 ∧ slo e x y u v * (2 * y) = 3 * (x * x) + 2 * (e.a : Rat) * x + (e.b : Rat)) := by
  by_cases hx : x = u
  · subst hx
    right
    have hy : y = v := by
      rcases same_x h k with z | z
      · exact z
      · exact absurd ⟨rfl, z⟩ n
    subst hy
    have y0 : y ≠ 0 := fun z => n ⟨rfl, by rw [z]; rfl⟩
    refine ⟨rfl, rfl, y0, ?_⟩
    rw [sl_dbl]
    have e2 : ((2 * e.a : Int) : Rat) = 2 * (e.a : Rat) := by rw [Rat.intCast_mul]; rfl
    rw [e2]
    have h2 : (2 * y : Rat) ≠ 0 := by grind
    rw [Rat.div_mul_cancel h2]
    grind
  · left
    refine ⟨hx, ?_⟩
    rw [sl_two (fun z => hx z.1)]
    have h2 : (u - x : Rat) ≠ 0 := by grind
    rw [Rat.div_mul_cancel h2]
theorem on_two {a b c x y u v k : Rat} (h : y * y = x * x * x + a * x * x + b * x + c) (h2 : v * v = u * u * u + a * u * u + b * u + c) (hx : x ≠ u) (hk : k * (u - x) = v - y) :
    (y + k * ((k * k - a - x - u) - x)) * (y + k * ((k * k - a - x - u) - x)) = (k * k - a - x - u) * (k * k - a - x - u) * (k * k - a - x - u) + a * (k * k - a - x - u) * (k * k - a - x - u) + b * (k * k - a - x - u) + c := by
  have h0 : (u - x : Rat) ≠ 0 := by grind
  have e1 : k * (v + y) = u * u + u * x + x * x + a * (u + x) + b := by
    have : (u - x) * (k * (v + y) - (u * u + u * x + x * x + a * (u + x) + b)) = 0 := by grind
    rcases Rat.mul_eq_zero.mp this with z | z
    · exact absurd z h0
    · grind
  have e2 : v = y + k * (u - x) := by grind
  subst e2
  grind
theorem on_dbl {a b c x y k : Rat} (h : y * y = x * x * x + a * x * x + b * x + c) (hk : k * (2 * y) = 3 * (x * x) + 2 * a * x + b) :
    (y + k * ((k * k - a - x - x) - x)) * (y + k * ((k * k - a - x - x) - x)) = (k * k - a - x - x) * (k * k - a - x - x) * (k * k - a - x - x) + a * (k * k - a - x - x) * (k * k - a - x - x) + b * (k * k - a - x - x) + c := by
  grind
theorem On.sum {e : Ec} {P Q : Pt} (h : On e P) (k : On e Q) : On e (sum e P Q) := by
  match P, Q, h, k with
  | none, Q, _, k => exact k
  | some P, none, h, _ => exact h
  | some (x, y), some (u, v), h, k =>
    show On e (if x = u ∧ -y = v then none else _)
    split
    · trivial
    · rename_i n
      show -(y + _) * -(y + _) = _
      have h' : y * y = x * x * x + (e.a : Rat) * x * x + (e.b : Rat) * x + (e.c : Rat) := h
      have k' : v * v = u * u * u + (e.a : Rat) * u * u + (e.b : Rat) * u + (e.c : Rat) := k
      rcases slope_is h k n with ⟨hx, hk⟩ | ⟨rfl, rfl, y0, hk⟩
      · have := on_two h' k' hx hk
        unfold px Ec.f
        rw [Rat.neg_mul, Rat.mul_neg, Rat.neg_neg]
        exact this
      · have := on_dbl h' hk
        unfold px Ec.f
        rw [Rat.neg_mul, Rat.mul_neg, Rat.neg_neg]
        exact this
end EcM
set_option linter.all false
/-! sizes of points: plain Lean -/
namespace EcM
open QM
/-- below 2 ^ n -/
def Z (n : Nat) (x : Int) : Prop := x.natAbs < 2 ^ n
theorem Z.up {m n : Nat} {x : Int} (h : Z m x) (k : m ≤ n) : Z n x := Nat.lt_of_lt_of_le h (Nat.pow_le_pow_right (by decide) k)
theorem Z.mul {m n : Nat} {x y : Int} (h : Z m x) (k : Z n y) : Z (m + n) (x * y) := by
  unfold Z
  rw [Int.natAbs_mul]
  exact pmul h k
theorem Z.add {m n : Nat} {x y : Int} (h : Z m x) (k : Z m y) (e : m + 1 ≤ n) : Z n (x + y) := by
  refine Z.up (m := m + 1) ?_ e
  unfold Z at *
  rw [Nat.pow_succ]
  omega
theorem Z.sub {m n : Nat} {x y : Int} (h : Z m x) (k : Z m y) (e : m + 1 ≤ n) : Z n (x - y) := by
  refine Z.up (m := m + 1) ?_ e
  unfold Z at *
  rw [Nat.pow_succ]
  omega
theorem Z.lit {n : Nat} {x : Int} (h : x.natAbs < 2 ^ n) : Z n x := h
structure Ec.Bd (e : Ec) (g : Nat) : Prop where
  g2 : 2 ≤ g
  a : Z g e.a
  b : Z g e.b
  c : Z g e.c
def HB (h : Nat) : Pt → Prop
  | none => True
  | some (x, _) => RB h x
theorem HB.up {h k : Nat} {P : Pt} (z : HB h P) (l : h ≤ k) : HB k P := by
  match P, z with
  | none, _ => trivial
  | some (x, y), z => exact RB.up z l
theorem den_one {q : Rat} {n : Int} (h : q * q = (n : Rat)) : q.den = 1 := by
  have e : (q ^ 2).den = q.den ^ 2 := dpow q 2
  have e2 : q ^ 2 = (n : Rat) := by rw [← h, Rat.pow_succ, Rat.pow_succ, Rat.pow_zero, Rat.one_mul]
  rw [e2, Rat.den_intCast] at e
  have h1 : q.den ≤ q.den ^ 2 := le_npow _ (by decide)
  have := q.den_nz
  omega
theorem num_of {q : Rat} (h : q.den = 1) : q = ((q.num : Int) : Rat) := Rat.ext (by rw [Rat.num_intCast]) (by rw [Rat.den_intCast]; exact h)
theorem y_eq {a b c x y A D : Rat} (hx : x * D = A) (h : y * y = x * x * x + a * x * x + b * x + c) : (y * (D * D)) * (y * (D * D)) = (A * A * A + a * (A * A) * D + b * A * (D * D) + c * (D * D * D)) * D := by
  subst hx
  grind
theorem x_num (x : Rat) : x * ((x.den : Int) : Rat) = (x.num : Rat) := by
  have h := as_div x
  have h0 := denR x
  have : (x.num : Rat) / ((x.den : Int) : Rat) * ((x.den : Int) : Rat) = (x.num : Rat) := Rat.div_mul_cancel h0
  rw [← h] at this
  exact this
/-- y's number over the square of x's lower one -/
theorem y_is {e : Ec} {x y : Rat} {h g : Nat} (hc : y * y = e.f x) (hB : RB h x) (k : e.Bd g) : ∃ Y : Int, y * (((x.den : Int) : Rat) * ((x.den : Int) : Rat)) = (Y : Rat) ∧ Z (2 * h + g) Y := by
  obtain ⟨g2, ka, kb, kc⟩ := k
  have ex := x_num x
  have e1 := y_eq ex (show y * y = x * x * x + (e.a : Rat) * x * x + (e.b : Rat) * x + (e.c : Rat) from hc)
  obtain ⟨A, hA⟩ : ∃ A, x.num = A := ⟨_, rfl⟩
  obtain ⟨D, hD⟩ : ∃ D, (x.den : Int) = D := ⟨_, rfl⟩
  have zA : Z h A := hA ▸ hB.1
  have zD : Z h D := hD ▸ hB.2
  rw [hA, hD] at e1
  rw [hD]
  have e2 : ((A : Rat) * A * A + e.a * (A * A) * D + e.b * A * (D * D) + e.c * (D * D * D)) * D = (((A * A * A + e.a * (A * A) * D + e.b * A * (D * D) + e.c * (D * D * D)) * D : Int) : Rat) := by
    push_cast
    rfl
  rw [e2] at e1
  have d1 := den_one e1
  have n1 := num_of d1
  refine ⟨_, n1, ?_⟩
  obtain ⟨q, hq⟩ : ∃ q, y * ((D : Rat) * D) = q := ⟨_, rfl⟩
  rw [hq] at e1 d1 n1 ⊢
  have e3 : q.num * q.num = (A * A * A + e.a * (A * A) * D + e.b * A * (D * D) + e.c * (D * D * D)) * D := by
    rw [n1, ← Rat.intCast_mul] at e1
    exact_mod_cast e1
  have b0 : Z (4 * h + g + 2) (q.num * q.num) := by
    rw [e3, show (A * A * A + e.a * (A * A) * D + e.b * A * (D * D) + e.c * (D * D * D)) * D = (A * A * A * D + e.a * (A * A) * D * D) + (e.b * A * (D * D) * D + e.c * (D * D * D) * D) by grind]
    have t1 : Z (4 * h + g) (A * A * A * D) := (((zA.mul zA).mul zA).mul zD).up (by omega)
    have t2 : Z (4 * h + g) (e.a * (A * A) * D * D) := (((ka.mul (zA.mul zA)).mul zD).mul zD).up (by omega)
    have t3 : Z (4 * h + g) (e.b * A * (D * D) * D) := (((kb.mul zA).mul (zD.mul zD)).mul zD).up (by omega)
    have t4 : Z (4 * h + g) (e.c * (D * D * D) * D) := ((kc.mul ((zD.mul zD).mul zD)).mul zD).up (by omega)
    exact (t1.add t2 (Nat.le_refl _)).add (t3.add t4 (Nat.le_refl _)) (by omega)
  unfold Z at *
  rw [Int.natAbs_mul] at b0
  rcases Nat.lt_or_ge q.num.natAbs (2 ^ (2 * h + g)) with z | z
  · exact z
  · exfalso
    have h1 := Nat.mul_le_mul z z
    rw [← Nat.pow_add] at h1
    have h2 : 2 ^ (4 * h + g + 2) ≤ 2 ^ (2 * h + g + (2 * h + g)) := Nat.pow_le_pow_right (by decide) (by omega)
    omega
theorem rb_of {q : Rat} {n d : Int} {m : Nat} (e : q * (d : Rat) = (n : Rat)) (h : d ≠ 0) (hn : Z m n) (hd : Z m d) : RB m q := by
  have h0 : (d : Rat) ≠ 0 := fun z => h (by exact_mod_cast z)
  have e2 : q = Rat.divInt n d := by
    rw [Rat.divInt_eq_div, ← e, Rat.mul_div_cancel h0]
  rw [e2]
  exact RB.of h hn hd
theorem y_RB {e : Ec} {x y : Rat} {h g : Nat} (hc : y * y = e.f x) (hB : RB h x) (k : e.Bd g) : RB (2 * h + g) y := by
  obtain ⟨Y, e1, hY⟩ := y_is hc hB k
  have e2 : y * (((x.den : Int) * (x.den : Int) : Int) : Rat) = (Y : Rat) := by
    rw [Rat.intCast_mul]
    exact e1
  have zD : Z h (x.den : Int) := hB.2
  exact rb_of e2 (mul_ne (den_ne x) (den_ne x)) hY ((zD.mul zD).up (by omega))
theorem two_x {a b c x y u v k A D A2 D2 Y Y2 : Rat} (hA : x * D = A) (hA2 : u * D2 = A2) (hY : y * (D * D) = Y) (hY2 : v * (D2 * D2) = Y2) (h : y * y = x * x * x + a * x * x + b * x + c) (h2 : v * v = u * u * u + a * u * u + b * u + c) (hk : k * (u - x) = v - y) :
    (k * k - a - x - u) * ((A * D2 - A2 * D) * (A * D2 - A2 * D)) = ((A * A2 + b * (D * D2)) * (A * D2 + A2 * D) + 2 * a * (A * A2) * (D * D2)) + (2 * c * (D * D2) * (D * D2) - 2 * Y * Y2) := by
  have e : (k * k - a - x - u) * ((u - x) * (u - x)) = (x * u + b) * (x + u) + 2 * a * x * u + 2 * c - 2 * y * v := by
    have e3 : (k * (u - x)) * (k * (u - x)) = (v - y) * (v - y) := by rw [hk]
    grind
  subst hA hA2 hY hY2
  grind
theorem dbl_x {a b c x y k A D : Rat} (hA : x * D = A) (h : y * y = x * x * x + a * x * x + b * x + c) (hk : k * (2 * y) = 3 * (x * x) + 2 * a * x + b) :
    (k * k - a - x - x) * (4 * ((A * A * A + a * (A * A) * D + b * A * (D * D) + c * (D * D * D)) * D)) = (A * A * A * A - 2 * b * (A * A) * (D * D)) + ((b * b - 4 * a * c) * (D * D) * (D * D) - 8 * c * (A * D) * (D * D)) := by
  have e : (k * k - a - x - x) * (4 * (y * y)) = x * x * x * x - 2 * b * (x * x) - 8 * c * x + b * b - 4 * a * c := by
    have e3 : (k * (2 * y)) * (k * (2 * y)) = (3 * (x * x) + 2 * a * x + b) * (3 * (x * x) + 2 * a * x + b) := by rw [hk]
    grind
  subst hA
  have e4 : (x * D * (x * D) * (x * D) + a * (x * D * (x * D)) * D + b * (x * D) * (D * D) + c * (D * D * D)) * D = (y * y) * (D * D * (D * D)) := by
    rw [h]
    grind
  rw [e4]
  grind
theorem sum_HB {e : Ec} {P Q : Pt} {h j g : Nat} (p : On e P) (q : On e Q) (hP : HB h P) (hQ : HB j Q) (k : e.Bd g) : HB (2 * h + 2 * j + 2 * g + 6) (sum e P Q) := by
  match P, Q, p, q, hP, hQ with
  | none, Q, _, _, _, hQ => exact hQ.up (by omega)
  | some P, none, _, _, hP, _ => exact HB.up hP (by omega)
  | some (x, y), some (u, v), p, q, hP, hQ =>
    show HB _ (if x = u ∧ -y = v then none else _)
    split
    · trivial
    rename_i n
    show RB _ (px e (slo e x y u v) x u)
    replace p : y * y = e.f x := p
    replace q : v * v = e.f u := q
    replace hP : RB h x := hP
    replace hQ : RB j u := hQ
    obtain ⟨Y, hY, zY⟩ := y_is p hP k
    obtain ⟨Y2, hY2, zY2⟩ := y_is q hQ k
    have ex := x_num x
    have eu := x_num u
    obtain ⟨g2, ka, kb, kc⟩ := k
    rcases slope_is p q n with ⟨hx, hk⟩ | ⟨rfl, rfl, y0, hk⟩
    · have t := two_x (a := (e.a : Rat)) (b := (e.b : Rat)) (c := (e.c : Rat)) ex eu hY hY2 p q hk
      have nz : x.num * (u.den : Int) - u.num * (x.den : Int) ≠ 0 := by
        intro z
        apply hx
        have z2 : ((x.num * (u.den : Int) - u.num * (x.den : Int) : Int) : Rat) = 0 := by rw [z]; rfl
        rw [Rat.intCast_sub, Rat.intCast_mul, Rat.intCast_mul, ← ex, ← eu] at z2
        have d1 := denR x
        have d2 := denR u
        grind
      obtain ⟨A, hA⟩ : ∃ A, x.num = A := ⟨_, rfl⟩
      obtain ⟨D, hD⟩ : ∃ D, (x.den : Int) = D := ⟨_, rfl⟩
      obtain ⟨A2, hA2⟩ : ∃ A, u.num = A := ⟨_, rfl⟩
      obtain ⟨D2, hD2⟩ : ∃ D, (u.den : Int) = D := ⟨_, rfl⟩
      have zA : Z h A := hA ▸ hP.1
      have zD : Z h D := hD ▸ hP.2
      have zA2 : Z j A2 := hA2 ▸ hQ.1
      have zD2 : Z j D2 := hD2 ▸ hQ.2
      rw [hA, hD, hA2, hD2] at t nz
      refine rb_of (d := (A * D2 - A2 * D) * (A * D2 - A2 * D)) (n := ((A * A2 + e.b * (D * D2)) * (A * D2 + A2 * D) + 2 * e.a * (A * A2) * (D * D2)) + (2 * e.c * (D * D2) * (D * D2) - 2 * Y * Y2)) ?_ (mul_ne nz nz) ?_ ?_
      · show (slo e x y u v * slo e x y u v - (e.a : Rat) - x - u) * _ = _
        push_cast
        exact t
      · have l2 : Z 2 2 := Z.lit (by decide)
        have u1 : Z (h + j + g + 1) (A * A2 + e.b * (D * D2)) := ((zA.mul zA2).up (n := h + j + g) (by omega)).add ((kb.mul (zD.mul zD2)).up (by omega)) (Nat.le_refl _)
        have u2 : Z (h + j + 1) (A * D2 + A2 * D) := (zA.mul zD2).add ((zA2.mul zD).up (by omega)) (Nat.le_refl _)
        have u3 := ((l2.mul ka).mul (zA.mul zA2)).mul (zD.mul zD2)
        have u4 := ((l2.mul kc).mul (zD.mul zD2)).mul (zD.mul zD2)
        have u5 := (l2.mul zY).mul zY2
        have w1 := ((u1.mul u2).up (n := 2 * h + 2 * j + 2 * g + 2) (by omega)).add (u3.up (by omega)) (Nat.le_refl _)
        have w2 := (u4.up (n := 2 * h + 2 * j + 2 * g + 2) (by omega)).sub (u5.up (by omega)) (Nat.le_refl _)
        exact w1.add w2 (by omega)
      · have u1 : Z (h + j + 1) (A * D2 - A2 * D) := (zA.mul zD2).sub ((zA2.mul zD).up (by omega)) (Nat.le_refl _)
        exact (u1.mul u1).up (by omega)
    · have t := dbl_x (a := (e.a : Rat)) (b := (e.b : Rat)) (c := (e.c : Rat)) ex p hk
      have nz : (x.num * x.num * x.num + e.a * (x.num * x.num) * (x.den : Int) + e.b * x.num * ((x.den : Int) * (x.den : Int)) + e.c * ((x.den : Int) * (x.den : Int) * (x.den : Int))) * (x.den : Int) ≠ 0 := by
        intro z
        have z1 := y_eq ex (show y * y = x * x * x + (e.a : Rat) * x * x + (e.b : Rat) * x + (e.c : Rat) from p)
        have z2 : (((x.num * x.num * x.num + e.a * (x.num * x.num) * (x.den : Int) + e.b * x.num * ((x.den : Int) * (x.den : Int)) + e.c * ((x.den : Int) * (x.den : Int) * (x.den : Int))) * (x.den : Int) : Int) : Rat) = 0 := by rw [z]; rfl
        push_cast at z2
        have d1 := denR x
        have z3 : y * (((x.den : Int) : Rat) * ((x.den : Int) : Rat)) ≠ 0 := by
          intro z4
          rcases Rat.mul_eq_zero.mp z4 with z5 | z5
          · exact y0 z5
          · rcases Rat.mul_eq_zero.mp z5 with z6 | z6 <;> exact d1 z6
        have z7 : y * (((x.den : Int) : Rat) * ((x.den : Int) : Rat)) * (y * (((x.den : Int) : Rat) * ((x.den : Int) : Rat))) = 0 := z1.trans z2
        rcases Rat.mul_eq_zero.mp z7 with z8 | z8 <;> exact z3 z8
      obtain ⟨A, hA⟩ : ∃ A, x.num = A := ⟨_, rfl⟩
      obtain ⟨D, hD⟩ : ∃ D, (x.den : Int) = D := ⟨_, rfl⟩
      have zA : Z h A := hA ▸ hP.1
      have zD : Z h D := hD ▸ hP.2
      have zA' : Z j A := hA ▸ hQ.1
      have zD' : Z j D := hD ▸ hQ.2
      rw [hA, hD] at t nz
      refine rb_of (d := 4 * ((A * A * A + e.a * (A * A) * D + e.b * A * (D * D) + e.c * (D * D * D)) * D)) (n := (A * A * A * A - 2 * e.b * (A * A) * (D * D)) + ((e.b * e.b - 4 * e.a * e.c) * (D * D) * (D * D) - 8 * e.c * (A * D) * (D * D))) ?_ (mul_ne (by decide) nz) ?_ ?_
      · show (slo e x y x y * slo e x y x y - (e.a : Rat) - x - x) * _ = _
        push_cast
        exact t
      · have l2 : Z 2 2 := Z.lit (by decide)
        have l4 : Z 3 4 := Z.lit (by decide)
        have l8 : Z 4 8 := Z.lit (by decide)
        have u1 := ((zA.mul zA').mul zA).mul zA'
        have u2 := ((l2.mul kb).mul (zA.mul zA')).mul (zD.mul zD')
        have u3 : Z (2 * g + 4) (e.b * e.b - 4 * e.a * e.c) := ((kb.mul kb).up (n := 2 * g + 3) (by omega)).sub (((l4.mul ka).mul kc).up (by omega)) (Nat.le_refl _)
        have u4 := u3.mul ((zD.mul zD').mul (zD.mul zD'))
        have u5 := (((l8.mul kc).mul (zA.mul zD')).mul (zD.mul zD'))
        have w1 := (u1.up (n := 2 * h + 2 * j + g + 2) (by omega)).sub (u2.up (by omega)) (Nat.le_refl _)
        have w2 := (u4.up (n := 2 * h + 2 * j + 2 * g + 4) (by omega)).sub (u5.up (by omega)) (Nat.le_refl _)
        have w3 := (w1.up (n := 2 * h + 2 * j + 2 * g + 5) (by omega)).add (w2.up (by omega)) (n := 2 * h + 2 * j + 2 * g + 6) (by omega)
        rw [show (A * A * A * A - 2 * e.b * (A * A) * (D * D)) + ((e.b * e.b - 4 * e.a * e.c) * (D * D) * (D * D) - 8 * e.c * (A * D) * (D * D)) = (A * A * A * A - 2 * e.b * (A * A) * (D * D)) + ((e.b * e.b - 4 * e.a * e.c) * ((D * D) * (D * D)) - 8 * e.c * (A * D) * (D * D)) by grind]
        exact w3
      · have t1 : Z (2 * h + 2 * j + g) (A * A * A * D) := (((zA.mul zA').mul zA).mul zD').up (by omega)
        have t2 : Z (2 * h + 2 * j + g) (e.a * (A * A) * D * D) := (((ka.mul (zA.mul zA')).mul zD).mul zD').up (by omega)
        have t3 : Z (2 * h + 2 * j + g) (e.b * A * (D * D) * D) := (((kb.mul zA).mul (zD.mul zD')).mul zD').up (by omega)
        have t4 : Z (2 * h + 2 * j + g) (e.c * (D * D * D) * D) := ((kc.mul ((zD.mul zD').mul zD)).mul zD').up (by omega)
        have t5 := (Z.lit (n := 3) (x := 4) (by decide)).mul ((t1.add t2 (Nat.le_refl _)).add (t3.add t4 (Nat.le_refl _)) (Nat.le_refl _))
        rw [show 4 * ((A * A * A + e.a * (A * A) * D + e.b * A * (D * D) + e.c * (D * D * D)) * D) = 4 * ((A * A * A * D + e.a * (A * A) * D * D) + (e.b * A * (D * D) * D + e.c * (D * D * D) * D)) by grind]
        exact t5.up (by omega)
/-! ### squares -/
theorem sq0 (r : Int) : 0 ≤ r * r := by
  rcases Int.le_total 0 r with h | h
  · exact Int.mul_nonneg h h
  · have := Int.mul_nonneg (show 0 ≤ -r by omega) (show 0 ≤ -r by omega)
    rw [Int.neg_mul_neg] at this
    exact this
/-- the whole root of n, if there is one -/
def SqR (n : Int) : Option Int → Prop
  | some r => 0 ≤ r ∧ r * r = n
  | none => ∀ r : Int, r * r ≠ n
theorem sq_inj {r s : Int} (h : 0 ≤ r) (k : 0 ≤ s) (e : r * r = s * s) : r = s := by
  have e2 : r.natAbs * r.natAbs = s.natAbs * s.natAbs := by rw [← Int.natAbs_mul, ← Int.natAbs_mul, e]
  have := Nat.mul_self_inj.mp e2
  omega
theorem SqR.uniq {n : Int} {o p : Option Int} (h : SqR n o) (k : SqR n p) : o = p := by
  match o, p, h, k with
  | none, none, _, _ => rfl
  | none, some r, h, k => exact absurd k.2 (h r)
  | some r, none, h, k => exact absurd h.2 (k r)
  | some r, some s, h, k => exact congrArg some (sq_inj h.1 k.1 (h.2.trans k.2.symm))
theorem sq_max {n y r : Int} (y0 : 0 ≤ y) (yle : y * y ≤ n) (ymax : ∀ s, 0 ≤ s → s * s ≤ n → s ≤ y) (h : r * r = n) : y * y = n := by
  have h1 : ((r.natAbs : Nat) : Int) * ((r.natAbs : Nat) : Int) = n := by rw [Int.natAbs_mul_self', h]
  have h2 := ymax (r.natAbs : Int) (by omega) (by omega)
  have h3 := Int.mul_le_mul h2 h2 (by omega) y0
  omega
/-- the root of a fraction, if there is one -/
def SqQ (a : Rat) : Option Rat → Prop
  | some r => 0 ≤ r ∧ r * r = a
  | none => ∀ r : Rat, r * r ≠ a
theorem nn_num {r : Rat} (h : 0 ≤ r) : 0 ≤ r.num := Rat.num_nonneg.mpr h
theorem sq_num (r : Rat) : (r * r).num = r.num * r.num ∧ (((r * r).den : Nat) : Int) = (r.den : Int) * (r.den : Int) := by
  have e : r * r = r ^ 2 := by rw [Rat.pow_succ, Rat.pow_succ, Rat.pow_zero, Rat.one_mul]
  rw [e, npow, dpow]
  refine ⟨by rw [Int.pow_succ, Int.pow_succ, Int.pow_zero, Int.one_mul], ?_⟩
  rw [Nat.pow_succ, Nat.pow_succ, Nat.pow_zero, Nat.one_mul]
  exact_mod_cast rfl
theorem SqQ.uniq {n : Rat} {o p : Option Rat} (h : SqQ n o) (k : SqQ n p) : o = p := by
  match o, p, h, k with
  | none, none, _, _ => rfl
  | none, some r, h, k => exact absurd k.2 (h r)
  | some r, none, h, k => exact absurd h.2 (k r)
  | some r, some s, h, k =>
    have e := h.2.trans k.2.symm
    obtain ⟨a1, a2⟩ := sq_num r
    obtain ⟨b1, b2⟩ := sq_num s
    rw [e] at a1 a2
    have e1 := sq_inj (nn_num h.1) (nn_num k.1) (a1.symm.trans b1)
    have e2 := sq_inj (r := (r.den : Int)) (s := (s.den : Int)) (by omega) (by omega) (a2.symm.trans b2)
    exact congrArg some (Rat.ext e1 (by omega))
theorem SqQ.none1 {a : Rat} (h : SqR a.num none) : SqQ a none := fun r e => h r.num (by rw [← (sq_num r).1, e])
theorem SqQ.none2 {a : Rat} (h : SqR (a.den : Int) none) : SqQ a none := fun r e => h (r.den : Int) (by rw [← (sq_num r).2, e])
/-- out of the roots of its numbers -/
theorem SqQ.of {a : Rat} {n d : Int} (h : SqR a.num (some n)) (k : SqR (a.den : Int) (some d)) : ∃ r : Rat, SqQ a (some r) ∧ r.num = n ∧ (r.den : Int) = d := by
  obtain ⟨h1, h2⟩ := h
  obtain ⟨k1, k2⟩ := k
  have d0 : d ≠ 0 := fun z => den_ne a (by rw [← k2, z]; rfl)
  have c : Nat.Coprime n.natAbs d.natAbs := by
    have e1 : n.natAbs * n.natAbs = a.num.natAbs := by rw [← Int.natAbs_mul, h2]
    have e2 : d.natAbs * d.natAbs = a.den := by
      have := congrArg Int.natAbs k2
      rw [Int.natAbs_mul, Int.natAbs_natCast] at this
      exact this
    have c0 : Nat.Coprime (n.natAbs * n.natAbs) (d.natAbs * d.natAbs) := by
      rw [e1, e2]
      exact a.reduced
    exact Nat.Coprime.coprime_dvd_left (Nat.dvd_mul_left _ _) (Nat.Coprime.coprime_dvd_right (Nat.dvd_mul_left _ _) c0)
  refine ⟨⟨n, d.natAbs, by omega, c⟩, ⟨Rat.num_nonneg.mp h1, ?_⟩, rfl, by show ((d.natAbs : Nat) : Int) = d; omega⟩
  obtain ⟨a1, a2⟩ := sq_num (⟨n, d.natAbs, by omega, c⟩ : Rat)
  refine Rat.ext (a1.trans h2) ?_
  have e3 : ((d.natAbs : Nat) : Int) * ((d.natAbs : Nat) : Int) = d * d := by rw [Int.natAbs_mul_self']
  have : (((⟨n, d.natAbs, by omega, c⟩ : Rat) * ⟨n, d.natAbs, by omega, c⟩).den : Int) = (a.den : Int) := a2.trans (e3.trans k2)
  omega
end EcM
set_option Elab.async false
set_option linter.all false
set_option maxRecDepth 100000
/-! None in a list of tuples and None -/
namespace L2
open PySem PySem.Spec PyProof.Rows
def NoneT (K : PySem.W.Frag) (H : Hp) (z : V) : Prop := z = .non ∨ ∃ a xs, z = .ref a ∧ SqT K H a xs
theorem noneT_is {z : V} {u : Value} {K : PySem.W.Frag} {H : Hp} (r : RelV z u) (f : NoneT K H z) : PySem.Numpy.isNone u = isNon z := by
  rcases f with rfl | ⟨a, xs, rfl, _⟩
  · cases r; rfl
  · cases r; rfl
theorem anyT {K : PySem.W.Frag} {H : Hp} : ∀ {xs : List V} {us : List Value}, Vals xs us → (∀ z ∈ xs, NoneT K H z) → us.any PySem.Numpy.isNone = xs.any isNon
  | _, _, .nil, _ => rfl
  | y :: xs, u :: us, .cons r t, f => by
    rw [List.any_cons, List.any_cons, noneT_is r (f y (List.mem_cons_self ..)), anyT t fun z hz => f z (List.mem_cons_of_mem _ hz)]
section
variable {X : Cx}
theorem noneT_eq {A : Around} {pins : List (Addr × Obj)} {σ : St} {H : Hp} {s : Shared} (I : Inv X pins σ H s) (hu : A.units < cLine) {z : V} {u : Value} (r : RelV z u) (f : NoneT X.K H z) : SeqAt.EqAt A s u .none (PySem.Numpy.isNone u) := by
  rcases f with rfl | ⟨a, xs, rfl, ha⟩
  · cases r
    exact SeqAt.EqAt.same _
  · cases r
    obtain ⟨its, rv, ⟨o, ho, hc, n, hd⟩, _⟩ := I.tuple ha
    exact SeqAt.EqAt.tuple_none ⟨o, ho, hc, n, hd⟩ hu
theorem memT {A : Around} {pins : List (Addr × Obj)} {σ : St} {H : Hp} {s : Shared} (I : Inv X pins σ H s) (hu : A.units < cLine) : ∀ {xs : List V} {us : List Value}, Vals xs us → (∀ z ∈ xs, NoneT X.K H z) → ∀ u ∈ us, SeqAt.EqAt A s u .none (PySem.Numpy.isNone u)
  | _, _, .nil, _ => fun u hu' => by cases hu'
  | y :: xs, u :: us, .cons r t, f => fun u' hu' => by
    rcases List.mem_cons.mp hu' with e | hu'
    · subst e
      exact noneT_eq I hu r (f y (List.mem_cons_self ..))
    · exact memT I hu t (fun z hz => f z (List.mem_cons_of_mem _ hz)) u' hu'
def rNoneInT (K : PySem.W.Frag) : R2 := fun x y H Q => ∃ p xs, x = .non ∧ y = .ref p ∧ SqL K H p xs ∧ (∀ z ∈ xs, NoneT K H z) ∧ Q (.bl (xs.any isNon)) H
theorem op_noneInT (hu : X.A.units + 64 < cLine) : OpR X (compareOp .In) (rNoneInT X.K) := by
  intro pins s σ H x y v u Q I rx ry h
  obtain ⟨p, xs, rfl, rfl, hq, f, q⟩ := h
  cases rx
  cases ry
  obtain ⟨its, rv, hl, _⟩ := I.list hq
  have hu1 : X.A.in1.units < cLine := by show X.A.units + 1 < cLine; omega
  refine SeqAt.in_listAt PySem.Numpy.isNone hl.isList (fun z hz => memT I hu1 rv f z (by simpa using hz)) ⟨.bl _, H, I, rfl, ?_⟩
  rw [show its.toArray.any PySem.Numpy.isNone = its.any PySem.Numpy.isNone by simp, anyT rv f]
  exact q
end
end L2
set_option Elab.async false
set_option linter.all false
set_option maxRecDepth 100000
set_option maxHeartbeats 4000000
namespace EcP
open PySem PySem.Spec PyProof.Rows L2 Gd QM EcM
/-! ### points as they stand -/
def PtT (K : PySem.W.Frag) (H : Hp) (p : Addr) : Pt → Prop
  | none => SqT K H p []
  | some (x, y) => ∃ a b, SqT K H p [.ref a, .ref b] ∧ SqT K H a (fq x) ∧ SqT K H b (fq y)
theorem PtT.same {K : PySem.W.Frag} {H H' : Hp} {p : Addr} {P : Pt} (h : PtT K H p P) (s : Same H H') : PtT K H' p P := by
  match P, h with
  | none, h => exact Same.tup s h
  | some (x, y), ⟨a, b, h1, h2, h3⟩ => exact ⟨a, b, Same.tup s h1, Same.tup s h2, Same.tup s h3⟩
theorem dp0 {K : PySem.W.Frag} {H : Hp} {t : Addr} (h : SqT K H t []) : Dp K H (.ref t) (.tuple []) := .tup h .nil
theorem eq00 : PyData.eqv (.tuple []) (.tuple []) = true := rfl
def dP : Pt → PyData
  | none => .tuple []
  | some (x, y) => .tuple [dq x, dq y]
theorem dp_pt {K : PySem.W.Frag} {H : Hp} {p : Addr} {P : Pt} (h : PtT K H p P) : Dp K H (.ref p) (dP P) := by
  match P, h with
  | none, h => exact dp0 h
  | some (x, y), ⟨a, b, h1, h2, h3⟩ => exact .tup h1 (.cons (dp_q h2) (.cons (dp_q h3) .nil))
theorem sh_q (a : Rat) : SeqAt.shaped (dq a) = true := rfl
theorem sh_P (P : Pt) : SeqAt.shaped (dP P) = true := by
  match P with
  | none => rfl
  | some (x, y) => rfl
theorem eqv_q2 (a b c d : Int) : PyData.eqv (.tuple [.int a, .int b]) (.tuple [.int c, .int d]) = (decide (a = c) && decide (b = d)) := by
  rw [Bool.eq_iff_iff]
  simp [PyData.eqv, PyData.eqvAll]
theorem eqv_q (a b : Rat) : PyData.eqv (dq a) (dq b) = decide (a = b) := by
  unfold dq
  rw [eqv_q2, Bool.eq_iff_iff, Bool.and_eq_true, decide_eq_true_iff, decide_eq_true_iff, decide_eq_true_iff]
  constructor
  · rintro ⟨h1, h2⟩
    exact Rat.ext h1 (by omega)
  · rintro rfl
    exact ⟨rfl, rfl⟩
theorem eqv_two (a b c d : PyData) : PyData.eqv (.tuple [a, b]) (.tuple [c, d]) = (PyData.eqv a c && PyData.eqv b d) := by
  rw [Bool.eq_iff_iff]
  simp [PyData.eqv, PyData.eqvAll]
theorem eqv_P (P Q : Pt) : PyData.eqv (dP P) (dP Q) = decide (P = Q) := by
  match P, Q with
  | none, none => rfl
  | none, some (x, y) => rfl
  | some (x, y), none => rfl
  | some (x, y), some (u, v) =>
    show PyData.eqv (.tuple [dq x, dq y]) (.tuple [dq u, dq v]) = _
    rw [eqv_two, eqv_q, eqv_q, Bool.eq_iff_iff, Bool.and_eq_true, decide_eq_true_iff, decide_eq_true_iff, decide_eq_true_iff]
    constructor
    · rintro ⟨rfl, rfl⟩
      rfl
    · intro h
      obtain ⟨rfl, rfl⟩ := Prod.mk.inj (Option.some.inj h)
      exact ⟨rfl, rfl⟩
theorem eqv_P0 (P : Pt) : PyData.eqv (dP P) (.tuple []) = decide (P = none) := eqv_P P none
theorem ix_tupK {X : Cx} {K : PySem.W.Frag} (h : X.K = K) : IxR X (rIxT K) := h ▸ ix_tup
theorem op_eqDK {X : Cx} {K : PySem.W.Frag} (h : X.K = K) (hu : X.A.units + 64 < cLine) : OpR X (compareOp .Eq) (rEqD K) := h ▸ op_eqD hu
/-! ### a concord -/
abbrev C3 := Rat × Rat × Rat
def comb : Option Rat → Option Rat → Option Rat → Option C3
  | some a, some b, some c => some (a, b, c)
  | _, _, _ => none
def Con (m n : Int) : Pt → Option C3 → Prop
  | none, o => o = none
  | some (x, _), o => (x = 0 ∧ o = none) ∨ (x ≠ 0 ∧ ∃ r0 r1 r2, SqQ x r0 ∧ SqQ (x + (m : Rat)) r1 ∧ SqQ (x + (n : Rat)) r2 ∧ o = comb r0 r1 r2)
theorem Con.uniq {m n : Int} {P : Pt} {o p : Option C3} (h : Con m n P o) (k : Con m n P p) : o = p := by
  match P, h, k with
  | none, h, k => exact h.trans k.symm
  | some (x, y), h, k =>
    rcases h with ⟨h0, rfl⟩ | ⟨h0, r0, r1, r2, a0, a1, a2, rfl⟩ <;> rcases k with ⟨k0, rfl⟩ | ⟨k0, s0, s1, s2, b0, b1, b2, rfl⟩
    · rfl
    · exact absurd h0 k0
    · exact absurd k0 h0
    · rw [a0.uniq b0, a1.uniq b1, a2.uniq b2]
def TrT (K : PySem.W.Frag) (H : Hp) (p : Addr) (c : C3) : Prop := ∃ a b d, SqT K H p [.ref a, .ref b, .ref d] ∧ SqT K H a (fq c.1) ∧ SqT K H b (fq c.2.1) ∧ SqT K H d (fq c.2.2)
theorem TrT.same {K : PySem.W.Frag} {H H' : Hp} {p : Addr} {c : C3} (h : TrT K H p c) (s : Same H H') : TrT K H' p c := by
  obtain ⟨a, b, d, h1, h2, h3, h4⟩ := h
  exact ⟨a, b, d, Same.tup s h1, Same.tup s h2, Same.tup s h3, Same.tup s h4⟩
def TrO (K : PySem.W.Frag) (H : Hp) (v : V) : Option C3 → Prop
  | none => v = .non
  | some c => ∃ p, v = .ref p ∧ TrT K H p c
theorem TrO.same {K : PySem.W.Frag} {H H' : Hp} {v : V} {c : Option C3} (h : TrO K H v c) (s : Same H H') : TrO K H' v c := by
  match c, h with
  | none, h => exact h
  | some c, ⟨p, h1, h2⟩ => exact ⟨p, h1, h2.same s⟩
/-- a root as it stands -/
def RtO (H : Hp) (v : V) : Option Rat → Prop
  | none => v = .non
  | some r => ∃ a, v = .ref a ∧ H a = some (.tup (fq r))
theorem RtO.same {H H' : Hp} {v : V} {o : Option Rat} (h : RtO H v o) (s : Same H H') : RtO H' v o := by
  match o, h with
  | none, h => exact h
  | some c, ⟨p, h1, h2⟩ => exact ⟨p, h1, s _ _ h2⟩
theorem RtO.put {H : Hp} {D : Addr} {l : List V} {o : HO} {v : V} {c : Option Rat} (h : RtO H v c) (hD : H D = some (.lst l)) : RtO (upd H D o) v c := by
  match c, h with
  | none, h => exact h
  | some c, ⟨p, h1, h2⟩ =>
    refine ⟨p, h1, ?_⟩
    rw [upd_ne (ne_of h2 hD (by intro z; cases z))]
    exact h2
theorem RtO.nt {K : PySem.W.Frag} {H : Hp} {v : V} {o : Option Rat} (h : RtO H v o) : NoneT K H v := by
  match o, h with
  | none, h => exact .inl h
  | some c, ⟨p, h1, h2⟩ => exact .inr ⟨p, _, h1, tup_of h2⟩
theorem RtO.isn {H : Hp} {v : V} {o : Option Rat} (h : RtO H v o) : isNon v = o.isNone := by
  match o, h with
  | none, h =>
    rw [show v = .non from h]
    rfl
  | some c, ⟨p, h1, h2⟩ =>
    rw [h1]
    rfl
/-- the list of roots that is being made -/
def RtD (H : Hp) (D : Addr) (x : Rat) (ks : List Int) (i : Nat) : Prop := ∃ L : List V, H D = some (.lst L) ∧ L.length = i ∧ ∀ (j : Nat) (k : Int) (v : V), ks[j]? = some k → L[j]? = some v → ∃ o, SqQ (x + (k : Rat)) o ∧ RtO H v o
theorem RtD.new {H : Hp} {D : Addr} {x : Rat} {ks : List Int} : RtD (upd H D (.lst [])) D x ks 0 := ⟨[], upd_same, rfl, fun j k v _ h => by simp at h⟩
theorem RtD.push {H H' : Hp} {D : Addr} {x : Rat} {ks : List Int} {i : Nat} {k : Int} {v : V} {o : Option Rat} (h : RtD H D x ks i) (s : Same H H') (hk : ks[i]? = some k) (hq : SqQ (x + (k : Rat)) o) (hv : RtO H' v o) (hi : i < 1000) :
    ∃ acc, H' D = some (.lst acc) ∧ acc.length < sizeLine ∧ RtD (upd H' D (.lst (acc ++ [v]))) D x ks (i + 1) := by
  obtain ⟨L, h1, h2, h3⟩ := h
  have h1' := s _ _ h1
  refine ⟨L, h1', small1000 (by omega), L ++ [v], upd_same, by rw [List.length_append, h2]; rfl, fun j k' v' hk' hj => ?_⟩
  rcases Nat.lt_or_ge j L.length with z | z
  · rw [List.getElem?_append_left z] at hj
    obtain ⟨o', q1, q2⟩ := h3 j k' v' hk' hj
    exact ⟨o', q1, (q2.same s).put h1'⟩
  · rw [List.getElem?_append_right z] at hj
    have ej : j - L.length = 0 := by
      rcases Nat.eq_zero_or_pos (j - L.length) with q | q
      · exact q
      · rw [List.getElem?_eq_none (by simp; omega)] at hj
        cases hj
    rw [ej] at hj
    obtain rfl := Option.some.inj hj
    have e2 : j = i := by omega
    subst e2
    rw [hk] at hk'
    obtain rfl := Option.some.inj hk'
    exact ⟨o, hq, hv.put h1'⟩
theorem RtD.three {H : Hp} {D : Addr} {x : Rat} {a b c : Int} (h : RtD H D x [a, b, c] 3) : ∃ u v w o p q, H D = some (.lst [u, v, w]) ∧ SqQ (x + (a : Rat)) o ∧ SqQ (x + (b : Rat)) p ∧ SqQ (x + (c : Rat)) q ∧ RtO H u o ∧ RtO H v p ∧ RtO H w q := by
  obtain ⟨L, h1, h2, h3⟩ := h
  match L, h2 with
  | [u, v, w], _ =>
    obtain ⟨o, o1, o2⟩ := h3 0 a u rfl rfl
    obtain ⟨p, p1, p2⟩ := h3 1 b v rfl rfl
    obtain ⟨q, q1, q2⟩ := h3 2 c w rfl rfl
    exact ⟨u, v, w, o, p, q, h1, o1, p1, q1, o2, p2, q2⟩
end EcP
set_option Elab.async false
set_option linter.all false
set_option maxRecDepth 100000
/-! sums of fractions of any two sizes -/
namespace Gd
open PySem PySem.Spec PyProof.Rows L2 QM
def spBin2 (ok : Rat → Rat → Prop) (op : Rat → Rat → Rat) (K : PySem.W.Frag) : Sp := fun vs H Q _ => ∃ (f g : Addr) (a b : Rat) (m n : Nat), vs = [.ref f, .ref g] ∧ SqT K H f (fq a) ∧ SqT K H g (fq b) ∧ RB m a ∧ RB n b ∧ m + n ≤ 8100 ∧ ok a b ∧ ∀ t, H t = none → Q (.ref t) (upd H t (.tup (fq (op a b))))
end Gd
set_option Elab.async false
set_option linter.all false
set_option maxRecDepth 100000
set_option maxHeartbeats 4000000
namespace K52
open PySem PySem.Spec PyProof.Rows L2 Gd QM EcM
def topS (i : Nat) : Stmt := PySem.Challenge.pw_pointsum_k52_whole_triangles.main.body.getD i (.Pass ⟨0, 0, 0, 0⟩)
/-- what the walk asks of the module's names -/
structure Tx (K : PySem.W.Frag) (mg : Str → Option Value) : Prop where
  gcd : mg "gcd" = some (.builtin "math.gcd")
  type : mg "type" = none
  int : mg "int" = none
  isinstance : mg "isinstance" = none
  tuple : mg "tuple" = none
  bool : mg "bool" = none
  len : mg "len" = none
  all : mg "all" = none
  abs : mg "abs" = none
  min : mg "min" = none
  range : mg "range" = none
  repr : mg "repr" = none
theorem iteN {c A B : Prop} [Decidable c] (h : ¬ c) (b : B) : if c then A else B := by
  rw [if_neg h]
  exact b
theorem iteY {c A B : Prop} [Decidable c] (h : c) (b : A) : if c then A else B := by
  rw [if_pos h]
  exact b
section
variable {P : Program} {w : World} {K : PySem.W.Frag} {mg : Str → Option Value} {base : Heap}
/-! ### lowest -/
def sp_lowest : PySem.W.Frag → Sp := spCut
abbrev s_lowest : Stmt := topS 4
theorem sc_lowest : FnScope ["n", "d", "shared"] ["n", "d"] (defScope s_lowest) := ⟨rfl, rfl, rfl, by decide +kernel, rfl, by decide +kernel, by decide +kernel⟩
theorem k_lowest (T : Tx K mg) (D : Df K mg "lowest" s_lowest ["n", "d"])  : Kl P w K mg base 1 "lowest" (sp_lowest K) := by
  have nd := sc_lowest.nd
  refine Kl.by_body D sc_lowest (fun vs H Q E h => ?_) (fun f cdv A outer s H vs Q E hr h => ?_)
  · obtain ⟨_, _, rfl, _⟩ := h
    rfl
  · obtain ⟨n, d, rfl, hd, hn, hb, q⟩ := h
    have hu1 := hu_of hr
    refine ⟨_, (pss_cons (ps_set (i := 2) nd rfl (by first | exact Or.inl rfl | exact Or.inr rfl) (pe_callBfun cr_gcd (by rfl) T.gcd (pa_cons (pv 0) (pa_cons (pv 1) pa_nil))))
      (pss_cons (ps_if (pt_cmpR op_lt (pv 1) pe_int (nomark _)) (pss_one (ps_set (i := 2) nd rfl (by first | exact Or.inl rfl | exact Or.inr rfl) (pe_un un_neg (pv 2)))) pss_nil)
      (pss_one (ps_ret (pe_tup (pa_cons (pe_op op_fdivAny (pv 0) (pv 2)) (pa_cons (pe_op op_fdivAny (pv 1) (pv 2)) pa_nil))))))), ?_⟩
    refine ⟨_, rfl, _, rfl, n, d, rfl, ?_⟩
    have h1 : sg n d ≠ 0 := sg_ne hd
    have h2 : CDivAny n (sg n d) := div_any h1 (sg_B hd hb) (by decide)
    have h3 : CDivAny d (sg n d) := div_any h1 (sg_B hd hb) (by decide)
    refine ⟨_, rfl, d, 0, rfl, rfl, _, rfl, ite2 (fun e => ?_) (fun e => ?_)⟩
    · have e' : d < 0 := of_decide_eq_true e
      have es : sg n d = -((Nat.gcd n.natAbs d.natAbs : Nat) : Int) := if_pos e'
      refine ⟨_, rfl, _, rfl, ?_⟩
      refine ⟨_, rfl, _, rfl, n, _, rfl, rfl, es ▸ h2, _, rfl, _, rfl, d, _, rfl, rfl, es ▸ h3, (by show 2 ≤ sizeLine; decide), fun t nt => ?_⟩
      rw [← fq_div hd, es] at q
      exact q t nt
    · have e' : ¬ d < 0 := fun z => e (decide_eq_true z)
      have es : sg n d = ((Nat.gcd n.natAbs d.natAbs : Nat) : Int) := if_neg e'
      refine ⟨_, rfl, _, rfl, n, _, rfl, rfl, es ▸ h2, _, rfl, _, rfl, d, _, rfl, rfl, es ▸ h3, (by show 2 ≤ sizeLine; decide), fun t nt => ?_⟩
      rw [← fq_div hd, es] at q
      exact q t nt
/-! ### the sums -/
def sp_plus : PySem.W.Frag → Sp := spBin2 (fun a b => True) (fun a b => a + b)
abbrev s_plus : Stmt := topS 6
theorem sc_plus : FnScope ["f", "g"] ["f", "g"] (defScope s_plus) := ⟨rfl, rfl, rfl, by decide +kernel, rfl, by decide +kernel, by decide +kernel⟩
theorem k_plus (T : Tx K mg) (D : Df K mg "plus" s_plus ["f", "g"]) (c_lowest : Kl P w K mg base 1 "lowest" (sp_lowest K)) : Kl P w K mg base 2 "plus" (sp_plus K) := by
  have nd := sc_plus.nd
  refine Kl.by_body D sc_plus (fun vs H Q E h => ?_) (fun f cdv A outer s H vs Q E hr h => ?_)
  · obtain ⟨_, _, _, _, _, _, rfl, _⟩ := h
    rfl
  · obtain ⟨f, g, a, b, m, n, rfl, hf, hg, ha, hb, hmn, h0, q⟩ := h
    have hu1 := hu_of hr
    refine ⟨_, (pss_one (ps_ret (pe_k c_lowest  hr (by decide) (by rfl) (pa_cons (pe_op op_add (pe_op op_mulW (pe_ix ix_tup (pv 0) pe_int (fun _ _ => rfl)) (pe_ix ix_tup (pv 1) pe_int (fun _ _ => rfl))) (pe_op op_mulW (pe_ix ix_tup (pv 1) pe_int (fun _ _ => rfl)) (pe_ix ix_tup (pv 0) pe_int (fun _ _ => rfl)))) (pa_cons (pe_op op_mulW (pe_ix ix_tup (pv 0) pe_int (fun _ _ => rfl)) (pe_ix ix_tup (pv 1) pe_int (fun _ _ => rfl))) pa_nil))))), ?_⟩
    refine ⟨.ref f, rfl, f, _, 0, .int a.num, rfl, rfl, hf, rfl, .ref g, rfl, g, _, 1, .int b.den, rfl, rfl, hg, rfl, _, _, rfl, rfl, (B.mulW ha.n hb.d (by omega)), .ref g, rfl, g, _, 0, .int b.num, rfl, rfl, hg, rfl, .ref f, rfl, f, _, 1, .int a.den, rfl, rfl, hf, rfl, _, _, rfl, rfl, (B.mulW hb.n ha.d (by omega)), _, _, rfl, rfl, .ref f, rfl, f, _, 1, .int a.den, rfl, rfl, hf, rfl, .ref g, rfl, g, _, 1, .int b.den, rfl, rfl, hg, rfl, _, _, rfl, rfl, (B.mulW ha.d hb.d (by omega)), _, _, rfl, (mul_ne (den_ne a) (den_ne b)), ((B.mul ha.n hb.d).add (B.mul hb.n ha.d)).up (by omega), (B.mul ha.d hb.d).up (by omega), fun t nt => ?_⟩
    rw [fr_add a b]
    exact q t nt
def sp_less : PySem.W.Frag → Sp := spBin2 (fun a b => True) (fun a b => a - b)
abbrev s_less : Stmt := topS 7
theorem sc_less : FnScope ["f", "g"] ["f", "g"] (defScope s_less) := ⟨rfl, rfl, rfl, by decide +kernel, rfl, by decide +kernel, by decide +kernel⟩
theorem k_less (T : Tx K mg) (D : Df K mg "less" s_less ["f", "g"]) (c_lowest : Kl P w K mg base 1 "lowest" (sp_lowest K)) : Kl P w K mg base 2 "less" (sp_less K) := by
  have nd := sc_less.nd
  refine Kl.by_body D sc_less (fun vs H Q E h => ?_) (fun f cdv A outer s H vs Q E hr h => ?_)
  · obtain ⟨_, _, _, _, _, _, rfl, _⟩ := h
    rfl
  · obtain ⟨f, g, a, b, m, n, rfl, hf, hg, ha, hb, hmn, h0, q⟩ := h
    have hu1 := hu_of hr
    refine ⟨_, (pss_one (ps_ret (pe_k c_lowest  hr (by decide) (by rfl) (pa_cons (pe_op op_sub (pe_op op_mulW (pe_ix ix_tup (pv 0) pe_int (fun _ _ => rfl)) (pe_ix ix_tup (pv 1) pe_int (fun _ _ => rfl))) (pe_op op_mulW (pe_ix ix_tup (pv 1) pe_int (fun _ _ => rfl)) (pe_ix ix_tup (pv 0) pe_int (fun _ _ => rfl)))) (pa_cons (pe_op op_mulW (pe_ix ix_tup (pv 0) pe_int (fun _ _ => rfl)) (pe_ix ix_tup (pv 1) pe_int (fun _ _ => rfl))) pa_nil))))), ?_⟩
    refine ⟨.ref f, rfl, f, _, 0, .int a.num, rfl, rfl, hf, rfl, .ref g, rfl, g, _, 1, .int b.den, rfl, rfl, hg, rfl, _, _, rfl, rfl, (B.mulW ha.n hb.d (by omega)), .ref g, rfl, g, _, 0, .int b.num, rfl, rfl, hg, rfl, .ref f, rfl, f, _, 1, .int a.den, rfl, rfl, hf, rfl, _, _, rfl, rfl, (B.mulW hb.n ha.d (by omega)), _, _, rfl, rfl, .ref f, rfl, f, _, 1, .int a.den, rfl, rfl, hf, rfl, .ref g, rfl, g, _, 1, .int b.den, rfl, rfl, hg, rfl, _, _, rfl, rfl, (B.mulW ha.d hb.d (by omega)), _, _, rfl, (mul_ne (den_ne a) (den_ne b)), ((B.mul ha.n hb.d).sub (B.mul hb.n ha.d)).up (by omega), (B.mul ha.d hb.d).up (by omega), fun t nt => ?_⟩
    rw [fr_sub a b]
    exact q t nt
def sp_times : PySem.W.Frag → Sp := spBin2 (fun a b => True) (fun a b => a * b)
abbrev s_times : Stmt := topS 8
theorem sc_times : FnScope ["f", "g"] ["f", "g"] (defScope s_times) := ⟨rfl, rfl, rfl, by decide +kernel, rfl, by decide +kernel, by decide +kernel⟩
theorem k_times (T : Tx K mg) (D : Df K mg "times" s_times ["f", "g"]) (c_lowest : Kl P w K mg base 1 "lowest" (sp_lowest K)) : Kl P w K mg base 2 "times" (sp_times K) := by
  have nd := sc_times.nd
  refine Kl.by_body D sc_times (fun vs H Q E h => ?_) (fun f cdv A outer s H vs Q E hr h => ?_)
  · obtain ⟨_, _, _, _, _, _, rfl, _⟩ := h
    rfl
  · obtain ⟨f, g, a, b, m, n, rfl, hf, hg, ha, hb, hmn, h0, q⟩ := h
    have hu1 := hu_of hr
    refine ⟨_, (pss_one (ps_ret (pe_k c_lowest  hr (by decide) (by rfl) (pa_cons (pe_op op_mulW (pe_ix ix_tup (pv 0) pe_int (fun _ _ => rfl)) (pe_ix ix_tup (pv 1) pe_int (fun _ _ => rfl))) (pa_cons (pe_op op_mulW (pe_ix ix_tup (pv 0) pe_int (fun _ _ => rfl)) (pe_ix ix_tup (pv 1) pe_int (fun _ _ => rfl))) pa_nil))))), ?_⟩
    refine ⟨.ref f, rfl, f, _, 0, .int a.num, rfl, rfl, hf, rfl, .ref g, rfl, g, _, 0, .int b.num, rfl, rfl, hg, rfl, _, _, rfl, rfl, (B.mulW ha.n hb.n (by omega)), .ref f, rfl, f, _, 1, .int a.den, rfl, rfl, hf, rfl, .ref g, rfl, g, _, 1, .int b.den, rfl, rfl, hg, rfl, _, _, rfl, rfl, (B.mulW ha.d hb.d (by omega)), _, _, rfl, (mul_ne (den_ne a) (den_ne b)), (B.mul ha.n hb.n).up (by omega), (B.mul ha.d hb.d).up (by omega), fun t nt => ?_⟩
    rw [fr_mul a b]
    exact q t nt
def sp_over : PySem.W.Frag → Sp := spBin2 (fun a b => b ≠ 0) (fun a b => a / b)
abbrev s_over : Stmt := topS 9
theorem sc_over : FnScope ["f", "g"] ["f", "g"] (defScope s_over) := ⟨rfl, rfl, rfl, by decide +kernel, rfl, by decide +kernel, by decide +kernel⟩
theorem k_over (T : Tx K mg) (D : Df K mg "over" s_over ["f", "g"]) (c_lowest : Kl P w K mg base 1 "lowest" (sp_lowest K)) : Kl P w K mg base 2 "over" (sp_over K) := by
  have nd := sc_over.nd
  refine Kl.by_body D sc_over (fun vs H Q E h => ?_) (fun f cdv A outer s H vs Q E hr h => ?_)
  · obtain ⟨_, _, _, _, _, _, rfl, _⟩ := h
    rfl
  · obtain ⟨f, g, a, b, m, n, rfl, hf, hg, ha, hb, hmn, h0, q⟩ := h
    have hu1 := hu_of hr
    refine ⟨_, (pss_one (ps_ret (pe_k c_lowest  hr (by decide) (by rfl) (pa_cons (pe_op op_mulW (pe_ix ix_tup (pv 0) pe_int (fun _ _ => rfl)) (pe_ix ix_tup (pv 1) pe_int (fun _ _ => rfl))) (pa_cons (pe_op op_mulW (pe_ix ix_tup (pv 0) pe_int (fun _ _ => rfl)) (pe_ix ix_tup (pv 1) pe_int (fun _ _ => rfl))) pa_nil))))), ?_⟩
    refine ⟨.ref f, rfl, f, _, 0, .int a.num, rfl, rfl, hf, rfl, .ref g, rfl, g, _, 1, .int b.den, rfl, rfl, hg, rfl, _, _, rfl, rfl, (B.mulW ha.n hb.d (by omega)), .ref f, rfl, f, _, 1, .int a.den, rfl, rfl, hf, rfl, .ref g, rfl, g, _, 0, .int b.num, rfl, rfl, hg, rfl, _, _, rfl, rfl, (B.mulW ha.d hb.n (by omega)), _, _, rfl, (mul_ne (den_ne a) (num_ne h0)), (B.mul ha.n hb.d).up (by omega), (B.mul ha.d hb.n).up (by omega), fun t nt => ?_⟩
    rw [fr_div a b h0]
    exact q t nt
end
end K52
set_option Elab.async false
set_option linter.all false
set_option maxRecDepth 100000
set_option maxHeartbeats 4000000
namespace K52
open PySem PySem.Spec PyProof.Rows L2 Gd QM EcM
local macro_rules | `(tactic| walk_at "bd") => `(tactic| (repeat (first | assumption | apply B.add | apply B.sub | apply B.mul | apply B.neg | exact B.lit (n := 8) (by decide))))
local macro_rules | `(tactic| walk_at "bu") => `(tactic| (apply B.up; walk_at "bd"; decide))
local macro_rules | `(tactic| walk_at "bnd") => `(tactic| (apply B.mulW; walk_at "bd"; decide))
local macro_rules | `(tactic| walk_at "pw") => `(tactic| exact B.up (n := 64) (by assumption) (by decide))
theorem abs_eq (i : Int) : (if i < 0 then -i else i) = (i.natAbs : Int) := by
  split <;> omega
section
variable {P : Program} {w : World} {K : PySem.W.Frag} {mg : Str → Option Value} {base : Heap}
/-! ### the law's common factor -/
def sp_law_common (K : PySem.W.Frag) : Sp := fun vs H Q _ => ∃ a b : Int, vs = [.int a, .int b] ∧ B 8200 a ∧ B 8200 b ∧ Q (.int ((Nat.gcd a.natAbs b.natAbs : Nat) : Int)) H
theorem gcd_turn {x y : Int} (h1 : 0 ≤ x) (h2 : 0 ≤ y) (h0 : y ≠ 0) : 0 ≤ x - x.fdiv y * y ∧ (x - x.fdiv y * y).natAbs < y.natAbs ∧ Nat.gcd y.natAbs (x - x.fdiv y * y).natAbs = Nat.gcd x.natAbs y.natAbs := by
  have e : x - x.fdiv y * y = x % y := by
    rw [Int.fdiv_eq_ediv_of_nonneg x h2, Int.emod_def, Int.mul_comm]
  have h3 : 0 ≤ x % y := Int.emod_nonneg x h0
  have h4 : x % y < y := Int.emod_lt_of_pos x (by omega)
  rw [e]
  refine ⟨h3, by omega, ?_⟩
  have e2 : (x % y).natAbs = x.natAbs % y.natAbs := by
    rw [Int.natAbs_emod_of_nonneg h1]
  rw [e2, Nat.gcd_comm y.natAbs, ← Nat.gcd_rec y.natAbs x.natAbs, Nat.gcd_comm]
abbrev s__law_common : Stmt := topS 24
theorem sc__law_common : FnScope ["a", "b"] ["a", "b"] (defScope s__law_common) := ⟨rfl, rfl, rfl, by decide +kernel, rfl, by decide +kernel, by decide +kernel⟩
theorem k_law_common (T : Tx K mg) (D : Df K mg "_law_common" s__law_common ["a", "b"])  : Kl P w K mg base 1 "_law_common" (sp_law_common K) := by
  have nd := sc__law_common.nd
  refine Kl.by_body D sc__law_common (fun vs H Q E h => ?_) (fun f cdv A outer s H vs Q E hr h => ?_)
  · obtain ⟨_, _, rfl, _⟩ := h
    rfl
  · obtain ⟨a, b, rfl, ha, hb, q⟩ := h
    have hu1 := hu_of hr
    refine ⟨_, (pss_cons (ps_par (i := 0) (j := 1) (by rfl) nd rfl rfl (by decide) rfl rfl (pa_cons (pe_callB call_abs (by rfl) T.abs (by decide +kernel) (pa_cons (pv 0) pa_nil)) (pa_cons (pe_callB call_abs (by rfl) T.abs (by decide +kernel) (pa_cons (pv 1) pa_nil)) pa_nil)) (by rfl))
      (pss_cons (ps_while PassesOwn.never (pt_cmpR op_ne (pv 1) pe_int (nomark _)) (pss_one (ps_par (i := 0) (j := 1) (by rfl) nd rfl rfl (by decide) rfl rfl (pa_cons (pv 1) (pa_cons (pe_op op_sub (pv 0) (pe_op op_mulW (pe_op op_fdivAny (pv 0) (pv 1)) (pv 1))) pa_nil)) (by rfl))))
      (pss_one (ps_ret (pv 0))))), ?_⟩
    refine ⟨_, rfl, a, rfl, _, rfl, b, rfl, _, _, rfl, ?_⟩
    rw [abs_eq, abs_eq]
    first | refine sigN [some (.int ((a.natAbs : Int))), some (.int ((b.natAbs : Int)))] (by rfl) ?_ | refine sig [some (.int ((a.natAbs : Int))), some (.int ((b.natAbs : Int)))] (by rfl) ?_
    have na : B 8200 (a.natAbs : Int) := by
      unfold B at *
      omega
    have nb : B 8200 (b.natAbs : Int) := by
      unfold B at *
      omega
    refine while_by (fun σ H2 => ∃ x y : Int, σ = [some (.int x), some (.int y)] ∧ H2 = H ∧ 0 ≤ x ∧ 0 ≤ y ∧ Nat.gcd x.natAbs y.natAbs = Nat.gcd a.natAbs b.natAbs ∧ B 8200 x ∧ B 8200 y)
      (fun σ _ => match σ with | [_, some (.int y)] => y.natAbs | _ => 0) ⟨_, _, rfl, rfl, by omega, by omega, by rw [Int.natAbs_natCast, Int.natAbs_natCast], na, nb⟩ ?_ ?_
    · rintro σ H2 ⟨x, y, rfl, rfl, h1, h2, h3, h4, h5⟩
      refine ⟨_, rfl, rfl, _, rfl, ?_⟩
      rw [dec_int]
      by_cases h0 : y = 0
      · subst h0
        refine iteN (by simp) ?_
        refine ⟨_, rfl, ?_⟩
        rw [← h3] at q
        have e : ((Nat.gcd x.natAbs (0 : Int).natAbs : Nat) : Int) = x := by
          rw [show (0 : Int).natAbs = 0 from rfl, Nat.gcd_zero_right]
          omega
        rw [e] at q
        exact q
      · refine iteY (by simp [h0]) ?_
        obtain ⟨g1, g2, g3⟩ := gcd_turn h1 h2 h0
        have d1 : B 8200 (x.fdiv y) := by
          rw [Int.fdiv_eq_ediv_of_nonneg x h2]
          have e1 : 0 ≤ x / y := Int.ediv_nonneg h1 h2
          have e2 : x / y ≤ x := Int.ediv_le_self y h1
          unfold B at *
          omega
        refine ⟨_, rfl, _, rfl, _, rfl, _, rfl, x, y, rfl, rfl, div_any h0 h5 (by decide), _, rfl, _, _, rfl, rfl, d1.mulW h5 (by decide), _, _, rfl, rfl, _, _, rfl, ?_⟩
        have g4 : B 8200 (x - x.fdiv y * y) := by
          unfold B at *
          omega
        exact ⟨⟨_, _, rfl, rfl, h2, g1, g3.trans h3, h5, g4⟩, g2⟩
    · rintro σ H2 Q1 Q2 i ⟨v, hv, hs, k, e, z⟩
      exact ⟨v, hv, hs, k, e, i _ _ z⟩
/-! ### cut -/
def sp_law_cut : PySem.W.Frag → Sp := spCut
abbrev s__law_cut : Stmt := topS 27
theorem sc__law_cut : FnScope ["n", "d", "part"] ["n", "d"] (defScope s__law_cut) := ⟨rfl, rfl, rfl, by decide +kernel, rfl, by decide +kernel, by decide +kernel⟩
theorem k_law_cut (T : Tx K mg) (D : Df K mg "_law_cut" s__law_cut ["n", "d"]) (c_law_common : Kl P w K mg base 1 "_law_common" (sp_law_common K)) : Kl P w K mg base 2 "_law_cut" (sp_law_cut K) := by
  have nd := sc__law_cut.nd
  refine Kl.by_body D sc__law_cut (fun vs H Q E h => ?_) (fun f cdv A outer s H vs Q E hr h => ?_)
  · obtain ⟨_, _, rfl, _⟩ := h
    rfl
  · obtain ⟨n, d, rfl, h0, hn, hd, q⟩ := h
    have hu1 := hu_of hr
    refine ⟨_, (pss_cons (ps_set (i := 2) nd rfl (by first | exact Or.inl rfl | exact Or.inr rfl) (pe_k c_law_common  hr (by decide) (by rfl) (pa_cons (pv 0) (pa_cons (pv 1) pa_nil))))
      (pss_cons (ps_set (i := 2) nd rfl (by first | exact Or.inl rfl | exact Or.inr rfl) (pe_ifExp (pt_cmpR op_gt (pv 1) pe_int (nomark _)) (pv 2) (pe_un un_neg (pv 2))))
      (pss_one (ps_ret (pe_tup (pa_cons (pe_op op_fdivAny (pv 0) (pv 2)) (pa_cons (pe_op op_fdivAny (pv 1) (pv 2)) pa_nil))))))), ?_⟩
    refine ⟨_, rfl, _, rfl, n, d, rfl, hn, hd, ?_⟩
    have hs : sg n d ≠ 0 := sg_ne h0
    have c1 : CDivAny n (sg n d) := div_any hs (sg_B h0 hd) (by decide)
    have c2 : CDivAny d (sg n d) := div_any hs (sg_B h0 hd) (by decide)
    rw [← fq_div h0] at q
    refine ⟨_, rfl, _, _, rfl, rfl, _, rfl, ite2 (fun e => ?_) (fun e => ?_)⟩
    · have e' : 0 < d := of_decide_eq_true e
      have es : sg n d = ((Nat.gcd n.natAbs d.natAbs : Nat) : Int) := if_neg (by omega)
      refine ⟨_, rfl, ?_⟩
      refine ⟨_, rfl, _, rfl, n, _, rfl, rfl, es ▸ c1, _, rfl, _, rfl, d, _, rfl, rfl, es ▸ c2, (by show 2 ≤ sizeLine; decide), fun t nt => ?_⟩
      rw [es] at q
      exact q t nt
    · have e' : ¬ 0 < d := fun z => e (decide_eq_true z)
      have es : sg n d = -((Nat.gcd n.natAbs d.natAbs : Nat) : Int) := if_pos (by omega)
      refine ⟨_, rfl, _, rfl, ?_⟩
      refine ⟨_, rfl, _, rfl, n, _, rfl, rfl, es ▸ c1, _, rfl, _, rfl, d, _, rfl, rfl, es ▸ c2, (by show 2 ≤ sizeLine; decide), fun t nt => ?_⟩
      rw [es] at q
      exact q t nt
/-! ### the law's sums -/
def sp_law_plus : PySem.W.Frag → Sp := spBin2 (fun a b => True) (fun a b => a + b)
abbrev s__law_plus : Stmt := topS 28
theorem sc__law_plus : FnScope ["f", "g"] ["f", "g"] (defScope s__law_plus) := ⟨rfl, rfl, rfl, by decide +kernel, rfl, by decide +kernel, by decide +kernel⟩
theorem k_law_plus (T : Tx K mg) (D : Df K mg "_law_plus" s__law_plus ["f", "g"]) (c_law_cut : Kl P w K mg base 2 "_law_cut" (sp_law_cut K)) : Kl P w K mg base 3 "_law_plus" (sp_law_plus K) := by
  have nd := sc__law_plus.nd
  refine Kl.by_body D sc__law_plus (fun vs H Q E h => ?_) (fun f cdv A outer s H vs Q E hr h => ?_)
  · obtain ⟨_, _, _, _, _, _, rfl, _⟩ := h
    rfl
  · obtain ⟨f, g, a, b, m, n, rfl, hf, hg, ha, hb, hmn, h0, q⟩ := h
    have hu1 := hu_of hr
    refine ⟨_, (pss_one (ps_ret (pe_k c_law_cut  hr (by decide) (by rfl) (pa_cons (pe_op op_add (pe_op op_mulW (pe_ix ix_tup (pv 0) pe_int (fun _ _ => rfl)) (pe_ix ix_tup (pv 1) pe_int (fun _ _ => rfl))) (pe_op op_mulW (pe_ix ix_tup (pv 1) pe_int (fun _ _ => rfl)) (pe_ix ix_tup (pv 0) pe_int (fun _ _ => rfl)))) (pa_cons (pe_op op_mulW (pe_ix ix_tup (pv 0) pe_int (fun _ _ => rfl)) (pe_ix ix_tup (pv 1) pe_int (fun _ _ => rfl))) pa_nil))))), ?_⟩
    refine ⟨.ref f, rfl, f, _, 0, .int a.num, rfl, rfl, hf, rfl, .ref g, rfl, g, _, 1, .int b.den, rfl, rfl, hg, rfl, _, _, rfl, rfl, (B.mulW ha.n hb.d (by omega)), .ref g, rfl, g, _, 0, .int b.num, rfl, rfl, hg, rfl, .ref f, rfl, f, _, 1, .int a.den, rfl, rfl, hf, rfl, _, _, rfl, rfl, (B.mulW hb.n ha.d (by omega)), _, _, rfl, rfl, .ref f, rfl, f, _, 1, .int a.den, rfl, rfl, hf, rfl, .ref g, rfl, g, _, 1, .int b.den, rfl, rfl, hg, rfl, _, _, rfl, rfl, (B.mulW ha.d hb.d (by omega)), _, _, rfl, (mul_ne (den_ne a) (den_ne b)), ((B.mul ha.n hb.d).add (B.mul hb.n ha.d)).up (by omega), (B.mul ha.d hb.d).up (by omega), fun t nt => ?_⟩
    rw [fr_add a b]
    exact q t nt
def sp_law_less : PySem.W.Frag → Sp := spBin2 (fun a b => True) (fun a b => a - b)
abbrev s__law_less : Stmt := topS 29
theorem sc__law_less : FnScope ["f", "g"] ["f", "g"] (defScope s__law_less) := ⟨rfl, rfl, rfl, by decide +kernel, rfl, by decide +kernel, by decide +kernel⟩
theorem k_law_less (T : Tx K mg) (D : Df K mg "_law_less" s__law_less ["f", "g"]) (c_law_cut : Kl P w K mg base 2 "_law_cut" (sp_law_cut K)) : Kl P w K mg base 3 "_law_less" (sp_law_less K) := by
  have nd := sc__law_less.nd
  refine Kl.by_body D sc__law_less (fun vs H Q E h => ?_) (fun f cdv A outer s H vs Q E hr h => ?_)
  · obtain ⟨_, _, _, _, _, _, rfl, _⟩ := h
    rfl
  · obtain ⟨f, g, a, b, m, n, rfl, hf, hg, ha, hb, hmn, h0, q⟩ := h
    have hu1 := hu_of hr
    refine ⟨_, (pss_one (ps_ret (pe_k c_law_cut  hr (by decide) (by rfl) (pa_cons (pe_op op_sub (pe_op op_mulW (pe_ix ix_tup (pv 0) pe_int (fun _ _ => rfl)) (pe_ix ix_tup (pv 1) pe_int (fun _ _ => rfl))) (pe_op op_mulW (pe_ix ix_tup (pv 1) pe_int (fun _ _ => rfl)) (pe_ix ix_tup (pv 0) pe_int (fun _ _ => rfl)))) (pa_cons (pe_op op_mulW (pe_ix ix_tup (pv 0) pe_int (fun _ _ => rfl)) (pe_ix ix_tup (pv 1) pe_int (fun _ _ => rfl))) pa_nil))))), ?_⟩
    refine ⟨.ref f, rfl, f, _, 0, .int a.num, rfl, rfl, hf, rfl, .ref g, rfl, g, _, 1, .int b.den, rfl, rfl, hg, rfl, _, _, rfl, rfl, (B.mulW ha.n hb.d (by omega)), .ref g, rfl, g, _, 0, .int b.num, rfl, rfl, hg, rfl, .ref f, rfl, f, _, 1, .int a.den, rfl, rfl, hf, rfl, _, _, rfl, rfl, (B.mulW hb.n ha.d (by omega)), _, _, rfl, rfl, .ref f, rfl, f, _, 1, .int a.den, rfl, rfl, hf, rfl, .ref g, rfl, g, _, 1, .int b.den, rfl, rfl, hg, rfl, _, _, rfl, rfl, (B.mulW ha.d hb.d (by omega)), _, _, rfl, (mul_ne (den_ne a) (den_ne b)), ((B.mul ha.n hb.d).sub (B.mul hb.n ha.d)).up (by omega), (B.mul ha.d hb.d).up (by omega), fun t nt => ?_⟩
    rw [fr_sub a b]
    exact q t nt
def sp_law_by : PySem.W.Frag → Sp := spBin2 (fun a b => True) (fun a b => a * b)
abbrev s__law_by : Stmt := topS 30
theorem sc__law_by : FnScope ["f", "g"] ["f", "g"] (defScope s__law_by) := ⟨rfl, rfl, rfl, by decide +kernel, rfl, by decide +kernel, by decide +kernel⟩
theorem k_law_by (T : Tx K mg) (D : Df K mg "_law_by" s__law_by ["f", "g"]) (c_law_cut : Kl P w K mg base 2 "_law_cut" (sp_law_cut K)) : Kl P w K mg base 3 "_law_by" (sp_law_by K) := by
  have nd := sc__law_by.nd
  refine Kl.by_body D sc__law_by (fun vs H Q E h => ?_) (fun f cdv A outer s H vs Q E hr h => ?_)
  · obtain ⟨_, _, _, _, _, _, rfl, _⟩ := h
    rfl
  · obtain ⟨f, g, a, b, m, n, rfl, hf, hg, ha, hb, hmn, h0, q⟩ := h
    have hu1 := hu_of hr
    refine ⟨_, (pss_one (ps_ret (pe_k c_law_cut  hr (by decide) (by rfl) (pa_cons (pe_op op_mulW (pe_ix ix_tup (pv 0) pe_int (fun _ _ => rfl)) (pe_ix ix_tup (pv 1) pe_int (fun _ _ => rfl))) (pa_cons (pe_op op_mulW (pe_ix ix_tup (pv 0) pe_int (fun _ _ => rfl)) (pe_ix ix_tup (pv 1) pe_int (fun _ _ => rfl))) pa_nil))))), ?_⟩
    refine ⟨.ref f, rfl, f, _, 0, .int a.num, rfl, rfl, hf, rfl, .ref g, rfl, g, _, 0, .int b.num, rfl, rfl, hg, rfl, _, _, rfl, rfl, (B.mulW ha.n hb.n (by omega)), .ref f, rfl, f, _, 1, .int a.den, rfl, rfl, hf, rfl, .ref g, rfl, g, _, 1, .int b.den, rfl, rfl, hg, rfl, _, _, rfl, rfl, (B.mulW ha.d hb.d (by omega)), _, _, rfl, (mul_ne (den_ne a) (den_ne b)), (B.mul ha.n hb.n).up (by omega), (B.mul ha.d hb.d).up (by omega), fun t nt => ?_⟩
    rw [fr_mul a b]
    exact q t nt
def sp_law_over : PySem.W.Frag → Sp := spBin2 (fun a b => b ≠ 0) (fun a b => a / b)
abbrev s__law_over : Stmt := topS 31
theorem sc__law_over : FnScope ["f", "g"] ["f", "g"] (defScope s__law_over) := ⟨rfl, rfl, rfl, by decide +kernel, rfl, by decide +kernel, by decide +kernel⟩
theorem k_law_over (T : Tx K mg) (D : Df K mg "_law_over" s__law_over ["f", "g"]) (c_law_cut : Kl P w K mg base 2 "_law_cut" (sp_law_cut K)) : Kl P w K mg base 3 "_law_over" (sp_law_over K) := by
  have nd := sc__law_over.nd
  refine Kl.by_body D sc__law_over (fun vs H Q E h => ?_) (fun f cdv A outer s H vs Q E hr h => ?_)
  · obtain ⟨_, _, _, _, _, _, rfl, _⟩ := h
    rfl
  · obtain ⟨f, g, a, b, m, n, rfl, hf, hg, ha, hb, hmn, h0, q⟩ := h
    have hu1 := hu_of hr
    refine ⟨_, (pss_one (ps_ret (pe_k c_law_cut  hr (by decide) (by rfl) (pa_cons (pe_op op_mulW (pe_ix ix_tup (pv 0) pe_int (fun _ _ => rfl)) (pe_ix ix_tup (pv 1) pe_int (fun _ _ => rfl))) (pa_cons (pe_op op_mulW (pe_ix ix_tup (pv 0) pe_int (fun _ _ => rfl)) (pe_ix ix_tup (pv 1) pe_int (fun _ _ => rfl))) pa_nil))))), ?_⟩
    refine ⟨.ref f, rfl, f, _, 0, .int a.num, rfl, rfl, hf, rfl, .ref g, rfl, g, _, 1, .int b.den, rfl, rfl, hg, rfl, _, _, rfl, rfl, (B.mulW ha.n hb.d (by omega)), .ref f, rfl, f, _, 1, .int a.den, rfl, rfl, hf, rfl, .ref g, rfl, g, _, 0, .int b.num, rfl, rfl, hg, rfl, _, _, rfl, rfl, (B.mulW ha.d hb.n (by omega)), _, _, rfl, (mul_ne (den_ne a) (num_ne h0)), (B.mul ha.n hb.d).up (by omega), (B.mul ha.d hb.n).up (by omega), fun t nt => ?_⟩
    rw [fr_div a b h0]
    exact q t nt
/-! ### the law's roots -/
def sp_law_root (K : PySem.W.Frag) : Sp := fun vs H Q _ => ∃ n : Int, vs = [.int n] ∧ 0 ≤ n ∧ B 3900 n ∧ ∀ H' r, Same H H' → 0 ≤ r → r * r ≤ n → n < (r + 1) * (r + 1) → Q (.int r) H'
theorem sq_le_self {a n : Int} (h0 : 0 ≤ a) (h : a * a ≤ n) : a ≤ n := by
  rcases (show a < 1 ∨ 1 ≤ a by omega) with e | e
  · have : a = 0 := by omega
    subst this
    exact h
  · have := Int.mul_le_mul_of_nonneg_right e h0
    omega
abbrev s__law_root : Stmt := topS 26
theorem sc__law_root : FnScope ["n", "low", "high", "middle"] ["n"] (defScope s__law_root) := ⟨rfl, rfl, rfl, by decide +kernel, rfl, by decide +kernel, by decide +kernel⟩
theorem k_law_root (T : Tx K mg) (D : Df K mg "_law_root" s__law_root ["n"])  : Kl P w K mg base 1 "_law_root" (sp_law_root K) := by
  have nd := sc__law_root.nd
  refine Kl.by_body D sc__law_root (fun vs H Q E h => ?_) (fun f cdv A outer s H vs Q E hr h => ?_)
  · obtain ⟨_, rfl, _⟩ := h
    rfl
  · obtain ⟨n, rfl, h0, hB, q⟩ := h
    have hu1 := hu_of hr
    refine ⟨_, (pss_cons (ps_asg (pe_tup (pa_cons pe_int (pa_cons pe_int pa_nil))) (pg_tup rfl (pgs_cons (pg_name (i := 1) nd rfl (by first | exact Or.inl rfl | exact Or.inr rfl)) (pgs_cons (pg_name (i := 2) nd rfl (by first | exact Or.inl rfl | exact Or.inr rfl)) pgs_nil))))
      (pss_cons (ps_while PassesOwn.never (pt_cmpR op_le (pe_op op_mulW (pv 2) (pv 2)) (pv 0) (nomark _)) (pss_one (ps_par (i := 1) (j := 2) (by rfl) nd rfl rfl (by decide) rfl rfl (pa_cons (pv 2) (pa_cons (pe_op op_mul pe_int (pv 2)) pa_nil)) (by rfl))))
      (pss_cons (ps_while PassesOwn.never (pt_cmpR op_gt (pe_op op_sub (pv 2) (pv 1)) pe_int (nomark _)) (pss_cons (ps_set (i := 3) nd rfl (by first | exact Or.inl rfl | exact Or.inr rfl) (pe_op op_fdiv (pe_op op_add (pv 1) (pv 2)) pe_int))
      (pss_one (ps_asg (pe_ifExp (pt_cmpR op_le (pe_op op_mulW (pv 3) (pv 3)) (pv 0) (nomark _)) (pe_tup (pa_cons (pv 3) (pa_cons (pv 2) pa_nil))) (pe_tup (pa_cons (pv 1) (pa_cons (pv 3) pa_nil)))) (pg_tup rfl (pgs_cons (pg_name (i := 1) nd rfl (by first | exact Or.inl rfl | exact Or.inr rfl)) (pgs_cons (pg_name (i := 2) nd rfl (by first | exact Or.inl rfl | exact Or.inr rfl)) pgs_nil)))))))
      (pss_one (ps_ret (pv 1)))))), ?_⟩
    refine ⟨(by show 2 ≤ sizeLine; decide), fun t0 nt0 => ?_⟩
    have s1 := Same.new (H := H) (p := t0) (o := .tup [.int 0, .int 1]) nt0
    have g1 : upd H t0 (.tup [.int 0, .int 1]) t0 = some (.tup [.int 0, .int 1]) := upd_same
    generalize upd H t0 (.tup [.int 0, .int 1]) = H1 at s1 g1 ⊢
    refine ⟨t0, _, rfl, tup_of g1, rfl, _, _, rfl, _, _, rfl, rfl, ?_⟩
    first | refine sigN [some (.int (n)), some (.int (0)), some (.int (1)), none] (by rfl) ?_ | refine sig [some (.int (n)), some (.int (0)), some (.int (1)), none] (by rfl) ?_
    refine while_by (fun σ H2 => H2 = H1 ∧ ∃ lo hi : Int, σ = [some (.int n), some (.int lo), some (.int hi), none] ∧ 0 ≤ lo ∧ lo < hi ∧ hi ≤ 2 * n + 1 ∧ lo * lo ≤ n)
      (fun σ _ => match σ with | [_, _, some (.int hi), _] => (n + 1 - hi).toNat | _ => 0) ⟨rfl, 0, 1, rfl, by decide, by decide, by omega, by omega⟩ ?_ ?_
    · rintro σ H2 ⟨rfl, lo, hi, rfl, l0, lh, hb, ll⟩
      have hiB : B 3902 hi := by
        unfold Gd.B at *
        omega
      refine ⟨_, rfl, _, rfl, _, _, rfl, rfl, hiB.mulW hiB (by decide), _, rfl, _, _, rfl, rfl, _, rfl, ?_⟩
      by_cases hh : hi * hi ≤ n
      · refine iteY (decide_eq_true hh) ?_
        have h1 := sq_le_self (show 0 ≤ hi by omega) hh
        refine ⟨_, rfl, _, rfl, _, _, rfl, rfl, (Or.inl ⟨by decide, by decide⟩), _, _, rfl, ?_⟩
        refine ⟨⟨rfl, hi, 2 * hi, rfl, by omega, by omega, by omega, hh⟩, ?_⟩
        show (n + 1 - 2 * hi).toNat < (n + 1 - hi).toNat
        omega
      · refine iteN (by simpa using hh) ?_
        have hg : n < hi * hi := by omega
        refine while_by (fun σ H3 => Same H2 H3 ∧ ∃ (lo hi : Int) (v : Option V), σ = [some (.int n), some (.int lo), some (.int hi), v] ∧ 0 ≤ lo ∧ lo < hi ∧ lo * lo ≤ n ∧ n < hi * hi ∧ B 3902 hi)
          (fun σ _ => match σ with | [_, some (.int lo), some (.int hi), _] => (hi - lo).toNat | _ => 0) ⟨Same.refl _, lo, hi, none, rfl, l0, lh, ll, hg, hiB⟩ ?_ ?_
        · rintro σ H3 ⟨s3, lo, hi, v, rfl, l0, lh, ll, hg, hiB⟩
          refine ⟨_, rfl, _, rfl, _, _, rfl, rfl, _, _, rfl, rfl, _, rfl, ?_⟩
          by_cases hh : 1 < hi - lo
          · refine iteY (decide_eq_true hh) ?_
            refine ⟨_, rfl, _, rfl, _, _, rfl, rfl, _, _, rfl, rfl, ⟨by decide, by decide⟩, ?_⟩
            first | refine sigN [some (.int (n)), some (.int (lo)), some (.int (hi)), some (.int ((lo + hi) / 2))] (by rfl) ?_ | refine sig [some (.int (n)), some (.int (lo)), some (.int (hi)), some (.int ((lo + hi) / 2))] (by rfl) ?_
            have m1 : lo < (lo + hi) / 2 := by omega
            have m2 : (lo + hi) / 2 < hi := by omega
            generalize (lo + hi) / 2 = mid at m1 m2 ⊢
            have mB : B 3902 mid := by
              unfold Gd.B at *
              omega
            refine ⟨_, rfl, _, rfl, _, _, rfl, rfl, mB.mulW mB (by decide), _, rfl, _, _, rfl, rfl, _, rfl, ite2 (fun e => ?_) (fun e => ?_)⟩
            · have e' : mid * mid ≤ n := of_decide_eq_true e
              refine ⟨_, rfl, _, rfl, (by show 2 ≤ sizeLine; decide), fun t nt => ?_⟩
              refine ⟨t, _, rfl, tup_of upd_same, rfl, _, _, rfl, _, _, rfl, rfl, ?_⟩
              refine ⟨⟨Same.put s3 (s3.free nt), mid, hi, _, rfl, by omega, m2, e', hg, hiB⟩, ?_⟩
              show (hi - mid).toNat < (hi - lo).toNat
              omega
            · have e' : ¬ mid * mid ≤ n := fun z => e (decide_eq_true z)
              refine ⟨_, rfl, _, rfl, (by show 2 ≤ sizeLine; decide), fun t nt => ?_⟩
              refine ⟨t, _, rfl, tup_of upd_same, rfl, _, _, rfl, _, _, rfl, rfl, ?_⟩
              refine ⟨⟨Same.put s3 (s3.free nt), lo, mid, _, rfl, l0, m1, ll, by omega, mB⟩, ?_⟩
              show (mid - lo).toNat < (hi - lo).toNat
              omega
          · refine iteN (by simpa using hh) ?_
            have e : hi = lo + 1 := by omega
            subst e
            exact ⟨_, rfl, q _ lo (s1.trans s3) l0 ll hg⟩
        · rintro σ H3 Q1 Q2 i ⟨v, hv, v2, hv2, x, y, e1, e2, x2, y2, e3, e4, k, e, z⟩
          exact ⟨v, hv, v2, hv2, x, y, e1, e2, x2, y2, e3, e4, k, e, i _ _ z⟩
    · rintro σ H2 Q1 Q2 i ⟨v, hv, v2, hv2, x, y, e1, e2, c, v3, hv3, x2, y2, e3, e4, k, e, z⟩
      exact ⟨v, hv, v2, hv2, x, y, e1, e2, c, v3, hv3, x2, y2, e3, e4, k, e, i _ _ z⟩
end
end K52
set_option Elab.async false
set_option linter.all false
set_option maxRecDepth 100000
set_option maxHeartbeats 4000000
namespace K52
open PySem PySem.Spec PyProof.Rows L2 Gd QM
section
variable {P : Program} {w : World} {K : PySem.W.Frag} {mg : Str → Option Value} {base : Heap}
/-! ### one draw -/
def sp_law_draw (K : PySem.W.Frag) : Sp := fun vs H Q _ => ∃ (m cl : Addr) (b : Int) (n : Nat), vs = [.ref m, .int b] ∧ 0 < b ∧ b < 1073741824 ∧ n ≤ 1000000 ∧ MAt H m cl n ∧ ∀ H' r, But m H H' → MAt H' m cl (n + 1) → 0 ≤ r → r < b → Q (.int r) H'
abbrev s__law_draw : Stmt := topS 21
theorem sc__law_draw : FnScope ["m", "below", "found", "spot", "cells", "added", "cell", "blend"] ["m", "below"] (defScope s__law_draw) := ⟨rfl, rfl, rfl, by decide +kernel, rfl, by decide +kernel, by decide +kernel⟩
theorem k_law_draw (T : Tx K mg) (D : Df K mg "_law_draw" s__law_draw ["m", "below"])  : Kl P w K mg base 1 "_law_draw" (sp_law_draw K) := by
  have nd := sc__law_draw.nd
  refine Kl.by_body D sc__law_draw (fun vs H Q E h => ?_) (fun f cdv A outer s H vs Q E hr h => ?_)
  · obtain ⟨_, _, _, _, rfl, _⟩ := h
    rfl
  · obtain ⟨m, c, b, n, rfl, hb0, hb1, hn, ⟨L, s0, cs, k, hm, hk, hc, hl⟩, q⟩ := h
    have hu1 := hu_of hr
    refine ⟨_, (pss_cons (ps_if (pt_cmpR op_gt (pe_dget hu1 (pv 0) pe_str (fun _ _ => rfl)) pe_int (nomark _)) (pss_cons (ps_set (i := 2) nd rfl (by first | exact Or.inl rfl | exact Or.inr rfl) (pe_op op_mod (pe_callTy call_intI (by rfl) T.int (by decide +kernel) (pa_cons (pe_dget hu1 (pv 0) pe_str (fun _ _ => rfl)) pa_nil)) (pv 1)))
      (pss_cons (ps_dput hu1 (pv 0) pe_str (pe_op op_fdivN (pe_dget hu1 (pv 0) pe_str (fun _ _ => rfl)) (pv 1)) rfl)
      (pss_one (ps_ret (pv 2))))) pss_nil)
      (pss_cons (ps_set (i := 3) nd rfl (by first | exact Or.inl rfl | exact Or.inr rfl) (pe_dget hu1 (pv 0) pe_str (fun _ _ => rfl)))
      (pss_cons (ps_dput hu1 (pv 0) pe_str (pe_op op_add (pv 3) pe_int) rfl)
      (pss_cons (ps_par (i := 4) (j := 5) (by rfl) nd rfl rfl (by decide) rfl rfl (pa_cons (pe_dget hu1 (pv 0) pe_str (fun _ _ => rfl)) (pa_cons (pe_op op_add (pe_dget hu1 (pv 0) pe_str (fun _ _ => rfl)) (pe_op op_mulW (pe_op op_mul pe_int (pv 3)) (pv 3))) pa_nil)) (by rfl))
      (pss_cons (ps_set (i := 6) nd rfl (by first | exact Or.inl rfl | exact Or.inr rfl) (pe_ix ix_list (pv 4) (pe_op op_mod (pe_callTy call_intI (by rfl) T.int (by decide +kernel) (pa_cons (pv 3) pa_nil)) (pe_callB call_len_seq (by rfl) T.len (by decide +kernel) (pa_cons (pv 4) pa_nil))) (fun _ _ => rfl)))
      (pss_cons (ps_set (i := 7) nd rfl (by first | exact Or.inl rfl | exact Or.inr rfl) (pe_op op_mod (pe_callTy call_intI (by rfl) T.int (by decide +kernel) (pa_cons (pe_op op_add (pe_op op_mul (pv 6) (pe_op op_add (pe_op op_mul pe_int (pv 3)) pe_int)) (pv 5)) pa_nil)) pe_int))
      (pss_cons (ps_set (i := 7) nd rfl (by first | exact Or.inl rfl | exact Or.inr rfl) (pe_op op_mod (pe_callTy call_intI (by rfl) T.int (by decide +kernel) (pa_cons (pe_op op_add (pe_op op_add (pe_op op_mul (pv 7) (pv 7)) (pe_op op_mul pe_int (pv 3))) (pe_dget hu1 (pv 0) pe_str (fun _ _ => rfl))) pa_nil)) pe_int))
      (pss_one (ps_ret (pe_op op_mod (pe_op op_fdiv (pe_op op_mod (pe_callTy call_intI (by rfl) T.int (by decide +kernel) (pa_cons (pe_op op_add (pe_op op_mul (pv 7) pe_int) (pv 3)) pa_nil)) pe_int) pe_int) (pv 1))))))))))), ?_⟩
    have gL : DGet H m (.str "left") (some (.int L)) := m4_left (L := L) ▸ DGet.k (k := Sum.inr "left") hm
    have ncm : c ≠ m := ne_of hc hm (by intro z; cases z)
    refine ⟨_, rfl, m, _, rfl, gL, _, _, rfl, rfl, _, rfl, ite2 (fun e => ?_) (fun e => ?_)⟩
    · refine ⟨_, rfl, m, _, rfl, gL, _, rfl, _, rfl, _, _, rfl, rfl, hb0, ?_⟩
      refine ⟨_, rfl, m, _, rfl, gL, _, rfl, _, _, rfl, rfl, ⟨by omega, by omega⟩, _, rfl, m, _, rfl, DPut.k (k := Sum.inr "left") hm (small1000 (by show 4 ≤ 1000; decide)), ?_⟩
      rw [m4_putL]
      refine ⟨_, rfl, ?_⟩
      refine q _ _ But.upd ⟨_, s0, cs, k, upd_same, by omega, ?_, hl⟩ (Int.emod_nonneg _ (by omega)) (Int.emod_lt_of_pos _ hb0)
      rw [upd_ne ncm]
      exact hc
    · have gS : DGet H m (.str "spot") (some (.int k)) := m4_spot (n := k) ▸ DGet.k (k := Sum.inr "spot") hm
      refine ⟨_, rfl, m, _, rfl, gS, ?_⟩
      refine ⟨_, rfl, _, _, rfl, rfl, _, rfl, m, _, rfl, DPut.k (k := Sum.inr "spot") hm (small1000 (by show 4 ≤ 1000; decide)), ?_⟩
      rw [m4_putS]
      have hm2 : (upd H m (HO.dK (mk4 L s0 c (k + 1)))) m = some (.dK (mk4 L s0 c (k + 1))) := upd_same
      have hc2 : (upd H m (HO.dK (mk4 L s0 c (k + 1)))) c = some (.lst (cs.map V.int)) := by
        rw [upd_ne ncm]
        exact hc
      have bt : But m H (upd H m (HO.dK (mk4 L s0 c (k + 1)))) := But.upd
      generalize upd H m (HO.dK (mk4 L s0 c (k + 1))) = H2 at hm2 hc2 bt ⊢
      have gC : DGet H2 m (.str "cells") (some (.ref c)) := m4_cells (c := c) ▸ DGet.k (k := Sum.inr "cells") hm2
      have gE : DGet H2 m (.str "seed") (some (.int s0)) := m4_seed (s := s0) ▸ DGet.k (k := Sum.inr "seed") hm2
      have bk : B 20 (k : Int) := by
        unfold B
        omega
      refine ⟨_, rfl, m, _, rfl, gC, _, rfl, m, _, rfl, gE, _, rfl, _, _, rfl, rfl, (Or.inl ⟨by decide, by decide⟩), _, rfl, _, _, rfl, rfl, ((B.lit (n := 20) (by decide)).mul bk).mulW bk (by decide), _, _, rfl, rfl, _, _, rfl, ?_⟩
      have hlz : (0 : Int) < ((cs.map V.int).length : Int) := by
        rw [List.length_map]
        omega
      have hix : ∃ z : Int, atI (cs.map V.int) ((k : Int) % ((cs.map V.int).length : Int)) = some (.int z) := by
        rw [List.length_map]
        have h1 : k % cs.length < cs.length := Nat.mod_lt _ hl
        refine ⟨cs[k % cs.length], ?_⟩
        rw [← Int.natCast_emod]
        refine atI_nat ?_
        rw [List.getElem?_map, List.getElem?_eq_getElem h1]
        rfl
      obtain ⟨z, hz⟩ := hix
      refine ⟨_, rfl, _, rfl, _, rfl, _, rfl, c, _, rfl, .inl (.inl (.inl hc2)), _, _, rfl, rfl, hlz, c, _, _, _, rfl, rfl, .inl (.inl hc2), hz, ?_⟩
      have bk2 : B 30 (2 * (k : Int) + 3) := by
        unfold B
        omega
      refine ⟨_, rfl, _, rfl, _, _, rfl, rfl, (Or.inl ⟨by decide, by decide⟩), _, _, rfl, rfl, _, _, rfl, rfl, bk2.mulR (by decide), _, rfl, _, _, rfl, rfl, _, rfl, _, _, rfl, rfl, (by show (0 : Int) < 2147483647; decide), ?_⟩
      have be : ∀ y : Int, B 32 (y % 2147483647) := fun y => by
        have h1 := Int.emod_nonneg y (show (2147483647 : Int) ≠ 0 by decide)
        have h2 := Int.emod_lt_of_pos y (show (0 : Int) < 2147483647 by decide)
        unfold B
        omega
      refine ⟨_, rfl, _, rfl, _, _, rfl, rfl, (be _).mulR (by decide), _, rfl, _, _, rfl, rfl, (Or.inl ⟨by decide, by decide⟩), _, _, rfl, rfl, _, rfl, m, _, rfl, gE, _, _, rfl, rfl, _, rfl, _, _, rfl, rfl, (by show (0 : Int) < 2147483629; decide), ?_⟩
      refine ⟨_, rfl, _, _, rfl, rfl, (Or.inr ⟨by decide, by decide⟩), _, rfl, _, _, rfl, rfl, _, rfl, _, _, rfl, rfl, (by show (0 : Int) < 2147483647; decide), _, _, rfl, rfl, ⟨by decide, by decide⟩, _, rfl, _, _, rfl, rfl, hb0, ?_⟩
      exact q _ _ bt ⟨L, s0, cs, k + 1, hm2, by omega, hc2, hl⟩ (Int.emod_nonneg _ (by omega)) (Int.emod_lt_of_pos _ hb0)
/-! ### one of some -/
def sp_law_of (K : PySem.W.Frag) : Sp := fun vs H Q _ => ∃ (m cl a : Addr) (xs : List V) (n : Nat), vs = [.ref m, .ref a] ∧ SqL K H a xs ∧ 0 < xs.length ∧ xs.length ≤ 1000 ∧ n ≤ 1000000 ∧ MAt H m cl n ∧ ∀ H' x, But m H H' → MAt H' m cl (n + 1) → x ∈ xs → Q x H'
abbrev s__law_of : Stmt := topS 22
theorem sc__law_of : FnScope ["m", "some"] ["m", "some"] (defScope s__law_of) := ⟨rfl, rfl, rfl, by decide +kernel, rfl, by decide +kernel, by decide +kernel⟩
theorem k_law_of (T : Tx K mg) (D : Df K mg "_law_of" s__law_of ["m", "some"]) (c_law_draw : Kl P w K mg base 1 "_law_draw" (sp_law_draw K)) : Kl P w K mg base 2 "_law_of" (sp_law_of K) := by
  have nd := sc__law_of.nd
  refine Kl.by_body D sc__law_of (fun vs H Q E h => ?_) (fun f cdv A outer s H vs Q E hr h => ?_)
  · obtain ⟨_, _, _, _, _, rfl, _⟩ := h
    rfl
  · obtain ⟨m, cl, a, xs, n, rfl, hx, h0, h1, hn, hM, q⟩ := h
    have hu1 := hu_of hr
    refine ⟨_, (pss_one (ps_ret (pe_ix ix_list (pv 1) (pe_k c_law_draw  hr (by decide) (by rfl) (pa_cons (pv 0) (pa_cons (pe_callB call_len_seq (by rfl) T.len (by decide +kernel) (pa_cons (pv 1) pa_nil)) pa_nil))) (fun _ _ => rfl)))), ?_⟩
    refine ⟨.ref a, rfl, _, rfl, .ref a, rfl, a, xs, rfl, .inl hx, m, cl, _, n, rfl, by omega, by omega, hn, hM, fun H1 r b1 m1 r0 r1 => ?_⟩
    have hr1 : r.toNat < xs.length := by omega
    refine ⟨a, xs, r, xs[r.toNat], rfl, rfl, b1.seqL hM hx, ?_, q _ _ b1 m1 (List.getElem_mem hr1)⟩
    have key : atI xs ((r.toNat : Nat) : Int) = some xs[r.toNat] := atI_nat (List.getElem?_eq_getElem hr1)
    rw [show ((r.toNat : Nat) : Int) = r by omega] at key
    exact key
/-! ### between -/
def sp_law_between (K : PySem.W.Frag) : Sp := fun vs H Q _ => ∃ (m cl : Addr) (z : Int) (n : Nat), vs = [.ref m, .int z] ∧ 0 ≤ z ∧ z ≤ 100000 ∧ n ≤ 1000000 ∧ MAt H m cl n ∧ ∀ H' r, But m H H' → MAt H' m cl (n + 1) → -z ≤ r → r ≤ z → Q (.int r) H'
abbrev s__law_between : Stmt := topS 23
theorem sc__law_between : FnScope ["m", "size"] ["m", "size"] (defScope s__law_between) := ⟨rfl, rfl, rfl, by decide +kernel, rfl, by decide +kernel, by decide +kernel⟩
theorem k_law_between (T : Tx K mg) (D : Df K mg "_law_between" s__law_between ["m", "size"]) (c_law_draw : Kl P w K mg base 1 "_law_draw" (sp_law_draw K)) : Kl P w K mg base 2 "_law_between" (sp_law_between K) := by
  have nd := sc__law_between.nd
  refine Kl.by_body D sc__law_between (fun vs H Q E h => ?_) (fun f cdv A outer s H vs Q E hr h => ?_)
  · obtain ⟨_, _, _, _, rfl, _⟩ := h
    rfl
  · obtain ⟨m, cl, z, n, rfl, h0, h1, hn, hM, q⟩ := h
    have hu1 := hu_of hr
    refine ⟨_, (pss_one (ps_ret (pe_op op_sub (pe_k c_law_draw  hr (by decide) (by rfl) (pa_cons (pv 0) (pa_cons (pe_op op_add (pe_op op_mul pe_int (pv 1)) pe_int) pa_nil))) (pv 1)))), ?_⟩
    refine ⟨_, rfl, _, rfl, _, _, rfl, rfl, (Or.inl ⟨by decide, by decide⟩), _, _, rfl, rfl, m, cl, _, n, rfl, by omega, by omega, hn, hM, fun H1 r b1 m1 r0 r1 => ?_⟩
    refine ⟨_, rfl, _, _, rfl, rfl, ?_⟩
    exact q _ _ b1 m1 (by omega) (by omega)
/-! ### the state of a turn -/
def sp_law_begun (K : PySem.W.Frag) : Sp := fun vs H Q _ => ∃ (a : Addr) (k : Int) (ns : List Int), vs = [.ref a, .int k] ∧ SqL K H a (ns.map V.int) ∧ ns.length ≤ 63 ∧ 0 ≤ k ∧ k ≤ 100 ∧ ∀ H' m cl, Same H H' → H m = none → H cl = none → MAt H' m cl 0 → Q (.ref m) H'
theorem cut_int {ns : List Int} (lo hi : Option Int) : ∃ ms : List Int, cutV (ns.map V.int) lo hi = ms.map V.int ∧ ms.length ≤ ns.length := by
  unfold cutV
  refine ⟨(ns.drop (HT.sIx (ns.map V.int).length 0 lo)).take (HT.sIx (ns.map V.int).length (ns.map V.int).length hi - HT.sIx (ns.map V.int).length 0 lo), ?_, ?_⟩
  · rw [List.map_take, List.map_drop]
  · rw [List.length_take, List.length_drop]
    omega
abbrev s__law_begun : Stmt := topS 20
theorem sc__law_begun : FnScope ["script", "k", "cells", "great", "cell", "begun", "left"] ["script", "k"] (defScope s__law_begun) := ⟨rfl, rfl, rfl, by decide +kernel, rfl, by decide +kernel, by decide +kernel⟩
theorem k_law_begun (T : Tx K mg) (D : Df K mg "_law_begun" s__law_begun ["script", "k"])  : Kl P w K mg base 1 "_law_begun" (sp_law_begun K) := by
  have nd := sc__law_begun.nd
  refine Kl.by_body D sc__law_begun (fun vs H Q E h => ?_) (fun f cdv A outer s H vs Q E hr h => ?_)
  · obtain ⟨_, _, _, rfl, _⟩ := h
    rfl
  · obtain ⟨a, k, ns, rfl, hx, hl, hk0, hk1, q⟩ := h
    have hu1 := hu_of hr
    refine ⟨_, (pss_cons (ps_set (i := 2) nd rfl (by first | exact Or.inl rfl | exact Or.inr rfl) (pe_op op_cat (pe_slice sl_list (pv 0) (po_some (pv 1)) po_none) (pe_slice sl_list (pv 0) po_none (po_some (pv 1)))))
      (pss_cons (ps_setLc (i := 3) (own := [("cell", 4)]) (g := gName 4) rfl nd rfl rfl (sw_true rfl rfl rfl (by decide +kernel)) (pi_list (pv 0)) (blkOk_by (N := ["script", "k", "cells", "great", "cell", "begun", "left"]) (sc := defScope s__law_begun) (by decide +kernel)) (fun _ _ _ _ _ => (pg_name (i := 4) nd rfl (by first | exact Or.inl rfl | exact Or.inr rfl))) (fun _ _ _ _ _ => (pts_one (pt_cmpR op_ge (pv 4) (pe_op op_pow pe_int pe_int) (nomark _)))) (fun _ _ _ _ _ => (pv 4)))
      (pss_cons (ps_set (i := 5) nd rfl (by first | exact Or.inl rfl | exact Or.inr rfl) (pe_op op_add pe_int (pe_op op_mul pe_int (pv 1))))
      (pss_cons (ps_for PassesOwn.never rfl (pi_list (pv 2)) (pg_name (i := 4) nd rfl (by first | exact Or.inl rfl | exact Or.inr rfl)) (pss_one (ps_set (i := 5) nd rfl (by first | exact Or.inl rfl | exact Or.inr rfl) (pe_op op_mod (pe_callTy call_intI (by rfl) T.int (by decide +kernel) (pa_cons (pe_op op_add (pe_op op_mul (pv 5) pe_int) (pv 4)) pa_nil)) pe_int))))
      (pss_cons (ps_set (i := 6) nd rfl (by first | exact Or.inl rfl | exact Or.inr rfl) (pe_ifExp (pt_cmpR op_lt (pv 1) (pe_callB call_len_seq (by rfl) T.len (by decide +kernel) (pa_cons (pv 3) pa_nil)) (nomark _)) (pe_ix ix_list (pv 3) (pv 1) (fun _ _ => rfl)) pe_int))
      (pss_one (ps_ret (pe_disp (pps_cons pe_str (pv 6) (pps_cons pe_str (pv 5) (pps_cons pe_str (pe_op op_cat (pv 2) (pe_lst (pa_cons (pe_op op_add (pe_op op_mul pe_int (pv 1)) pe_int) pa_nil))) (pps_cons pe_str pe_int pps_nil)))) (by rfl) (by rfl) (fun z => by cases z) (by decide))))))))), ?_⟩
    obtain ⟨m1, e1, l1⟩ := cut_int (ns := ns) (some k) none
    obtain ⟨m2, e2, l2⟩ := cut_int (ns := ns) none (some k)
    refine ⟨.ref a, rfl, _, rfl, k, rfl, a, _, rfl, hx, fun p1 n1 => ?_⟩
    rw [e1]
    have s1 : Same H (upd H p1 (.lst (m1.map V.int))) := Same.new n1
    have g1 : (upd H p1 (.lst (m1.map V.int))) p1 = some (.lst (m1.map V.int)) := upd_same
    generalize upd H p1 (.lst (m1.map V.int)) = H1 at s1 g1 ⊢
    refine ⟨.ref a, rfl, _, rfl, k, rfl, a, _, rfl, s1.seq hx, fun p2 n2 => ?_⟩
    rw [e2]
    have s2 : Same H1 (upd H1 p2 (.lst (m2.map V.int))) := Same.new n2
    have g2 : (upd H1 p2 (.lst (m2.map V.int))) p2 = some (.lst (m2.map V.int)) := upd_same
    generalize upd H1 p2 (.lst (m2.map V.int)) = H2 at s2 g2 ⊢
    refine ⟨p1, p2, _, _, rfl, rfl, s2 _ _ g1, g2, ?_, fun p3 n3 => ?_⟩
    · rw [List.length_map, List.length_map]
      exact small (by omega)
    rw [← List.map_append]
    have s3 : Same H2 (upd H2 p3 (.lst ((m1 ++ m2).map V.int))) := Same.new n3
    have g3 : (upd H2 p3 (.lst ((m1 ++ m2).map V.int))) p3 = some (.lst ((m1 ++ m2).map V.int)) := upd_same
    have hl3 : (m1 ++ m2).length ≤ 126 := by
      rw [List.length_append]
      omega
    generalize m1 ++ m2 = cs at s3 g3 hl3 ⊢
    generalize upd H2 p3 (.lst (cs.map V.int)) = H3 at s3 g3 ⊢
    have sA : Same H H3 := (s1.trans s2).trans s3
    clear s1 s2 s3 g1 g2
    first | refine sigN [some (.ref a), some (.int (k)), some (V.ref p3), none, none, none, none] (by rfl) ?_ | refine sig [some (.ref a), some (.int (k)), some (V.ref p3), none, none, none, none] (by rfl) ?_
    refine ⟨.ref a, rfl, a, rfl, ⟨_, sA.seq hx⟩, fun D hD => ?_⟩
    refine lc_list (K := K) (a := a) (xs := ns.map V.int) (fun i H4 => Same H3 H4 ∧ ∃ gs : List Int, H4 D = some (.lst (gs.map V.int)) ∧ gs.length ≤ i) ⟨Same.new hD, [], upd_same, Nat.le_refl _⟩ (fun i H4 _ z => (sA.trans z.1).seq hx) (fun i x H4 hi z => ?_) (fun H4 z => ?_)
    · obtain ⟨s4, gs, g4, l4⟩ := z
      obtain ⟨y, rfl⟩ : ∃ y : Int, x = .int y := by
        rw [List.getElem?_map] at hi
        cases e : ns[i]? with
        | none =>
          rw [e] at hi
          cases hi
        | some y =>
          rw [e] at hi
          exact ⟨y, (Option.some.inj hi).symm⟩
      have hi2 : i < ns.length := by
        have h1 := (List.getElem?_eq_some_iff.mp hi).1
        rw [List.length_map] at h1
        exact h1
      refine ⟨rfl, _, rfl, _, _, rfl, rfl, ⟨by decide, by decide, by decide⟩, _, _, rfl, rfl, _, rfl, ite2 (fun _ => ?_) (fun _ => ?_)⟩
      · refine ⟨_, rfl, _, g4, ?_, Same.put s4 hD, gs ++ [y], ?_, ?_⟩
        · rw [List.length_map]
          exact small1000 (by omega)
        · rw [upd_same, List.map_append]
          rfl
        · rw [List.length_append]
          exact Nat.add_le_add_right l4 1
      · exact ⟨s4, gs, g4, Nat.le_succ_of_le l4⟩
    · obtain ⟨s4, gs, g4, l4⟩ := z
      have sB : Same H H4 := sA.trans s4
      have g3' := s4 _ _ g3
      refine ⟨_, rfl, _, _, rfl, rfl, (Or.inl ⟨by decide, by decide⟩), _, _, rfl, rfl, ?_⟩
      first | refine sigN [some (.ref a), some (.int (k)), some (V.ref p3), some (V.ref D), none, some (.int (61 + 9 * k)), none] (by rfl) ?_ | refine sig [some (.ref a), some (.int (k)), some (V.ref p3), some (V.ref D), none, some (.int (61 + 9 * k)), none] (by rfl) ?_
      refine ⟨_, rfl, p3, rfl, ⟨_, .inl (.inl g3')⟩, for_list (K := K) (a := p3) (xs := cs.map V.int) (fun i σ H5 => H5 = H4 ∧ ∃ (y : Int) (v : Option V), σ = [some (.ref a), some (.int k), some (.ref p3), some (.ref D), v, some (.int y), none]) ⟨rfl, _, none, rfl⟩ (fun i σ H5 _ z => by rw [z.1]; exact .inl (.inl g3')) ?_ ?_⟩
      · rintro i x σ H5 hi ⟨rfl, y, v, rfl⟩
        obtain ⟨t, rfl⟩ : ∃ t : Int, x = .int t := by
          rw [List.getElem?_map] at hi
          cases e : cs[i]? with
          | none =>
            rw [e] at hi
            cases hi
          | some t =>
            rw [e] at hi
            exact ⟨t, (Option.some.inj hi).symm⟩
        refine ⟨_, rfl, _, _, rfl, rfl, (Or.inr ⟨by decide, by decide⟩), _, rfl, _, _, rfl, rfl, _, rfl, _, _, rfl, rfl, (by show (0 : Int) < 2147483647; decide), ?_⟩
        exact ⟨rfl, _, _, rfl⟩
      · rintro σ H5 ⟨rfl, y, v, rfl⟩
        refine ⟨_, rfl, _, rfl, D, _, rfl, .inl (.inl (.inl g4)), _, _, rfl, rfl, _, rfl, ite2 (fun e => ?A) (fun e => ?B)⟩
        case' A =>
          have e' : k < ((gs.map V.int).length : Int) := of_decide_eq_true e
          rw [List.length_map] at e'
          have hk2 : k.toNat < gs.length := by omega
          have hz : atI (gs.map V.int) k = some (.int gs[k.toNat]) := by
            have key : atI (gs.map V.int) ((k.toNat : Nat) : Int) = some (.int gs[k.toNat]) := atI_nat (by
              rw [List.getElem?_map, List.getElem?_eq_getElem hk2]
              rfl)
            rw [show ((k.toNat : Nat) : Int) = k by omega] at key
            exact key
          refine ⟨_, rfl, _, rfl, D, _, _, _, rfl, rfl, .inl (.inl g4), hz, ?_⟩
        all_goals
          intro m nm
          have h3m : p3 ≠ m := ne_of_none g3' nm
          refine ⟨_, rfl, _, rfl, _, rfl, _, rfl, _, _, rfl, rfl, (Or.inl ⟨by decide, by decide⟩), _, _, rfl, rfl, (by show 1 ≤ sizeLine; decide), fun l nl => ?_⟩
          have nml : m ≠ l := ne_of_none upd_same nl
          have nl0 : H5 l = none := Same.free (Same.new nm) nl
          refine ⟨p3, l, cs.map V.int, [V.int (47 * k + 19)], rfl, rfl, ?_, upd_same, ?_, fun u nu => ?_⟩
          · rw [upd_ne (ne_of_none g3' nl0), upd_ne h3m]
            exact g3'
          · rw [List.length_map]
            exact small (by show cs.length + 1 ≤ 1000; omega)
          have nmu : m ≠ u := ne_of_none (by rw [upd_ne nml]; exact upd_same) nu
          have nu0 : H5 u = none := Same.free (Same.put (Same.new nm) nl0) nu
          refine ⟨?_, mk4 _ y u 0, rfl, (by show 4 ≤ 15; decide), ?_⟩
          · rw [upd_ne nmu, upd_ne nml]
            exact upd_same
          rw [m4_merge]
          have hm0 : H m = none := Same.free sB nm
          have hl0 : H l = none := Same.free sB nl0
          have hu0 : H u = none := Same.free sB nu0
          refine q _ m u (Same.put (Same.put (Same.put (Same.put sB hm0) hl0) hu0) hm0) hm0 hu0 ⟨_, y, cs ++ [47 * k + 19], 0, upd_same, Nat.le_refl _, ?_, ?_⟩
          · rw [upd_ne (fun z => nmu z.symm), upd_same, List.map_append]
            rfl
          · rw [List.length_append]
            exact Nat.lt_of_lt_of_le (by decide : 0 < 1) (Nat.le_add_left _ _)
end
end K52
set_option Elab.async false
set_option linter.all false
set_option maxRecDepth 100000
set_option maxHeartbeats 4000000
namespace K52
open PySem PySem.Spec PyProof.Rows L2 Gd QM EcM EcP
local macro_rules | `(tactic| walk_at "mm") => `(tactic| (repeat (first | exact List.mem_cons_self | apply List.mem_cons_of_mem)))
theorem _root_.QM.RB.zero : RB 1 (0 : Rat) := ⟨by decide, by decide⟩
theorem fq_2 : [V.int 2, V.int 1] = fq 2 := rfl
theorem fq_3 : [V.int 3, V.int 1] = fq 3 := rfl
theorem fq_0 : [V.int 0, V.int 1] = fq 0 := rfl
theorem rb_two : RB 2 (2 : Rat) := ⟨by decide, by decide⟩
theorem rb_three : RB 2 (3 : Rat) := ⟨by decide, by decide⟩
/-- the five numbers of a curve -/
def FivT (K : PySem.W.Frag) (H : Hp) (f : Addr) (e : Ec) : Prop := SqT K H f [.int 0, .int e.a, .int 0, .int e.b, .int e.c]
theorem FivT.same {K : PySem.W.Frag} {H H' : Hp} {f : Addr} {e : Ec} (h : FivT K H f e) (s : Same H H') : FivT K H' f e := Same.tup s h
theorem neg_fq (y : Rat) : [V.int (-y.num), V.int (y.den : Int)] = fq (-y) := by
  unfold fq
  rw [Rat.neg_num, Rat.neg_den]
theorem sq_eq {K : PySem.W.Frag} {H : Hp} {p : Addr} {a b : Rat} (h : SqT K H p (fq a)) (e : a = b) : SqT K H p (fq b) := e ▸ h
section
variable {P : Program} {w : World} {K : PySem.W.Frag} {mg : Str → Option Value} {base : Heap}
/-! ### the five numbers -/
def sp_law_five (K : PySem.W.Frag) : Sp := fun vs H Q _ => ∃ (p : Addr) (a b c : Int), vs = [.ref p] ∧ SqT K H p [.int a, .int b, .int c] ∧ ∀ t, H t = none → Q (.ref t) (upd H t (.tup [.int 0, .int a, .int 0, .int b, .int c]))
abbrev s__law_five : Stmt := topS 32
theorem sc__law_five : FnScope ["curve"] ["curve"] (defScope s__law_five) := ⟨rfl, rfl, rfl, by decide +kernel, rfl, by decide +kernel, by decide +kernel⟩
theorem k_law_five (T : Tx K mg) (D : Df K mg "_law_five" s__law_five ["curve"])  : Kl P w K mg base 1 "_law_five" (sp_law_five K) := by
  have nd := sc__law_five.nd
  refine Kl.by_body D sc__law_five (fun vs H Q E h => ?_) (fun f cdv A outer s H vs Q E hr h => ?_)
  · obtain ⟨_, _, _, _, rfl, _⟩ := h
    rfl
  · obtain ⟨p, a, b, c, rfl, hp, q⟩ := h
    have hu1 := hu_of hr
    refine ⟨_, (pss_one (ps_ret (pe_ifExp (pt_cmpR op_eq (pe_callB call_len_seq (by rfl) T.len (by decide +kernel) (pa_cons (pv 0) pa_nil)) pe_int (nomark _)) (pe_tup (pa_cons pe_int (pa_cons (pe_ix ix_tup (pv 0) pe_int (fun _ _ => rfl)) (pa_cons pe_int (pa_cons (pe_ix ix_tup (pv 0) pe_int (fun _ _ => rfl)) (pa_cons (pe_ix ix_tup (pv 0) pe_int (fun _ _ => rfl)) pa_nil)))))) (pv 0)))), ?_⟩
    refine ⟨.ref p, rfl, p, _, rfl, .inr hp, rfl, _, rfl, iteY (by rfl) ?_⟩
    refine ⟨.ref p, rfl, p, _, 0, _, rfl, rfl, hp, rfl, .ref p, rfl, p, _, 1, _, rfl, rfl, hp, rfl, .ref p, rfl, p, _, 2, _, rfl, rfl, hp, rfl, (by show 5 ≤ sizeLine; decide), fun t nt => q t nt⟩
/-! ### the bent -/
def sp_law_bent (K : PySem.W.Frag) : Sp := fun vs H Q _ => ∃ (f p : Addr) (e : Ec) (x : Rat), vs = [.ref f, .ref p] ∧ FivT K H f e ∧ SqT K H p (fq x) ∧ RB 8000 x ∧ ∀ t, H t = none → Q (.ref t) (upd H t (.tup (fq 0)))
abbrev s__law_bent : Stmt := topS 34
theorem sc__law_bent : FnScope ["five", "x"] ["five", "x"] (defScope s__law_bent) := ⟨rfl, rfl, rfl, by decide +kernel, rfl, by decide +kernel, by decide +kernel⟩
theorem k_law_bent (T : Tx K mg) (D : Df K mg "_law_bent" s__law_bent ["five", "x"]) (c_law_cut : Kl P w K mg base 2 "_law_cut" (sp_law_cut K)) : Kl P w K mg base 3 "_law_bent" (sp_law_bent K) := by
  have nd := sc__law_bent.nd
  refine Kl.by_body D sc__law_bent (fun vs H Q E h => ?_) (fun f cdv A outer s H vs Q E hr h => ?_)
  · obtain ⟨_, _, _, _, rfl, _⟩ := h
    rfl
  · obtain ⟨f, p, e, x, rfl, hf, hp, hx, q⟩ := h
    have hu1 := hu_of hr
    refine ⟨_, (pss_one (ps_ret (pe_k c_law_cut  hr (by decide) (by rfl) (pa_cons (pe_op op_add (pe_op op_mulW (pe_ix ix_tup (pv 0) pe_int (fun _ _ => rfl)) (pe_ix ix_tup (pv 1) pe_int (fun _ _ => rfl))) (pe_op op_mulW (pe_ix ix_tup (pv 0) pe_int (fun _ _ => rfl)) (pe_ix ix_tup (pv 1) pe_int (fun _ _ => rfl)))) (pa_cons (pe_ix ix_tup (pv 1) pe_int (fun _ _ => rfl)) pa_nil))))), ?_⟩
    refine ⟨_, rfl, f, _, 0, .int 0, rfl, rfl, hf, rfl, .ref p, rfl, p, _, 0, _, rfl, rfl, hp, rfl, _, _, rfl, rfl, (B.lit (n := 1) (by decide)).mulW hx.n (by decide), .ref f, rfl, f, _, 2, .int 0, rfl, rfl, hf, rfl, .ref p, rfl, p, _, 1, _, rfl, rfl, hp, rfl, _, _, rfl, rfl, (B.lit (n := 1) (by decide)).mulW hx.d (by decide), _, _, rfl, rfl, .ref p, rfl, p, _, 1, _, rfl, rfl, hp, rfl, 0 * x.num + 0 * (x.den : Int), (x.den : Int), rfl, den_ne x, ?_, hx.d.up (by decide), fun t nt => ?_⟩
    · rw [Int.zero_mul, Int.zero_mul]
      exact B.lit (by decide)
    · rw [Int.zero_mul, Int.zero_mul, Int.add_zero, Rat.zero_divInt]
      exact q t nt
/-! ### the point turned -/
def PB (m : Nat) : Pt → Prop
  | none => True
  | some (x, y) => RB m x ∧ RB m y
def sp_law_turned (K : PySem.W.Frag) : Sp := fun vs H Q _ => ∃ (f p : Addr) (e : Ec) (S : Pt), vs = [.ref f, .ref p] ∧ FivT K H f e ∧ PtT K H p S ∧ PB 7000 S ∧ ∀ t H', Same H H' → PtT K H' t (neg S) → Q (.ref t) H'
abbrev s__law_turned : Stmt := topS 36
theorem sc__law_turned : FnScope ["five", "point"] ["five", "point"] (defScope s__law_turned) := ⟨rfl, rfl, rfl, by decide +kernel, rfl, by decide +kernel, by decide +kernel⟩
theorem k_law_turned (T : Tx K mg) (D : Df K mg "_law_turned" s__law_turned ["five", "point"]) (c_law_less : Kl P w K mg base 3 "_law_less" (sp_law_less K)) (c_law_bent : Kl P w K mg base 3 "_law_bent" (sp_law_bent K)) : Kl P w K mg base 4 "_law_turned" (sp_law_turned K) := by
  have nd := sc__law_turned.nd
  refine Kl.by_body D sc__law_turned (fun vs H Q E h => ?_) (fun f cdv A outer s H vs Q E hr h => ?_)
  · obtain ⟨_, _, _, _, rfl, _⟩ := h
    rfl
  · obtain ⟨f, p, e, S, rfl, hf, hp, hB, q⟩ := h
    have hu1 := hu_of hr
    refine ⟨_, (pss_cons (ps_if (pt_cmpR (op_eqD hr.units) (pv 1) (pe_tup pa_nil) (nomark _)) (pss_one (ps_ret (pe_tup pa_nil))) pss_nil)
      (pss_one (ps_ret (pe_tup (pa_cons (pe_ix ix_tup (pv 1) pe_int (fun _ _ => rfl)) (pa_cons (pe_k c_law_less  hr (by decide) (by rfl) (pa_cons (pe_tup (pa_cons (pe_un un_neg (pe_ix ix_tup (pe_ix ix_tup (pv 1) pe_int (fun _ _ => rfl)) pe_int (fun _ _ => rfl))) (pa_cons (pe_ix ix_tup (pe_ix ix_tup (pv 1) pe_int (fun _ _ => rfl)) pe_int (fun _ _ => rfl)) pa_nil))) (pa_cons (pe_k c_law_bent  hr (by decide) (by rfl) (pa_cons (pv 0) (pa_cons (pe_ix ix_tup (pv 1) pe_int (fun _ _ => rfl)) pa_nil))) pa_nil))) pa_nil)))))), ?_⟩
    refine ⟨_, rfl, (by show 0 ≤ sizeLine; decide), fun z nz => ?_⟩
    have s1 := Same.new (H := H) (p := z) (o := .tup []) nz
    have gz : upd H z (.tup []) z = some (.tup []) := upd_same
    generalize upd H z (.tup []) = H1 at s1 gz ⊢
    match S, hp, hB, q with
    | none, hp, hB, q =>
      refine ⟨dP none, .tuple [], dp_pt (hp.same s1), dp0 (tup_of gz), sh_P none, rfl, _, rfl, iteT ?_⟩
      refine ⟨(by show 0 ≤ sizeLine; decide), fun t nt => ?_⟩
      exact q t _ (s1.trans (Same.new nt)) (tup_of upd_same)
    | some (x, y), ⟨a, b, h1, h2, h3⟩, ⟨bx, byy⟩, q =>
      refine ⟨dP (some (x, y)), .tuple [], dp_pt ⟨a, b, Same.tup s1 h1, Same.tup s1 h2, Same.tup s1 h3⟩, dp0 (tup_of gz), sh_P (some (x, y)), rfl, _, rfl, iteF ?_⟩
      have h1' := Same.tup s1 h1
      have h3' := Same.tup s1 h3
      refine ⟨_, rfl, p, _, 0, .ref a, rfl, rfl, h1', rfl, .ref p, rfl, p, _, 1, .ref b, rfl, rfl, h1', rfl, b, _, 0, _, rfl, rfl, h3', rfl, _, rfl, .ref p, rfl, p, _, 1, .ref b, rfl, rfl, h1', rfl, b, _, 1, _, rfl, rfl, h3', rfl, (by show 2 ≤ sizeLine; decide), fun c nc => ?_⟩
      have s2 := Same.new (H := H1) (p := c) (o := .tup [.int (-y.num), .int (y.den : Int)]) nc
      have gc : upd H1 c (.tup [.int (-y.num), .int (y.den : Int)]) c = some (.tup [.int (-y.num), .int (y.den : Int)]) := upd_same
      generalize upd H1 c (.tup [.int (-y.num), .int (y.den : Int)]) = H2 at s2 gc ⊢
      rw [neg_fq] at gc
      have s02 := s1.trans s2
      refine ⟨.ref f, rfl, .ref p, rfl, p, _, 0, .ref a, rfl, rfl, Same.tup s02 h1, rfl, f, a, e, x, rfl, hf.same s02, Same.tup s02 h2, bx.up (by decide), fun d nd => ?_⟩
      have s3 := Same.new (H := H2) (p := d) (o := .tup (fq 0)) nd
      have gd : upd H2 d (.tup (fq 0)) d = some (.tup (fq 0)) := upd_same
      generalize upd H2 d (.tup (fq 0)) = H3 at s3 gd ⊢
      refine ⟨c, d, -y, 0, _, _, rfl, tup_of (s3 _ _ gc), tup_of gd, byy.neg, RB.zero, by decide, trivial, fun t nt => ?_⟩
      have s4 := Same.new (H := H3) (p := t) (o := .tup (fq (-y - 0))) nt
      have gt : upd H3 t (.tup (fq (-y - 0))) t = some (.tup (fq (-y - 0))) := upd_same
      generalize upd H3 t (.tup (fq (-y - 0))) = H4 at s4 gt ⊢
      refine ⟨(by show 2 ≤ sizeLine; decide), fun r nr => ?_⟩
      have s5 := Same.new (H := H4) (p := r) (o := .tup [.ref a, .ref t]) nr
      have s05 := s02.trans (s3.trans (s4.trans s5))
      exact q r _ s05 ⟨a, t, tup_of upd_same, Same.tup s05 h2, sq_eq (tup_of (s5 _ _ gt)) (by grind)⟩
/-! ### the sum -/
def sp_law_sum (K : PySem.W.Frag) : Sp := fun vs H Q _ => ∃ (f p o : Addr) (e : Ec) (S R : Pt) (h j : Nat), vs = [.ref f, .ref p, .ref o] ∧ FivT K H f e ∧ e.Bd 15 ∧ PtT K H p S ∧ PtT K H o R ∧ On e S ∧ On e R ∧ HB h S ∧ HB j R ∧ h + j ≤ 400 ∧ ∀ t H', Same H H' → PtT K H' t (sum e S R) → Q (.ref t) H'
abbrev s__law_sum : Stmt := topS 37
theorem sc__law_sum : FnScope ["five", "one", "two", "x", "y", "upper", "k", "far"] ["five", "one", "two"] (defScope s__law_sum) := ⟨rfl, rfl, rfl, by decide +kernel, rfl, by decide +kernel, by decide +kernel⟩
theorem k_law_sum (T : Tx K mg) (D : Df K mg "_law_sum" s__law_sum ["five", "one", "two"]) (c_law_less : Kl P w K mg base 3 "_law_less" (sp_law_less K)) (c_law_turned : Kl P w K mg base 4 "_law_turned" (sp_law_turned K)) (c_law_plus : Kl P w K mg base 3 "_law_plus" (sp_law_plus K)) (c_law_over : Kl P w K mg base 3 "_law_over" (sp_law_over K)) (c_law_by : Kl P w K mg base 3 "_law_by" (sp_law_by K)) (c_law_bent : Kl P w K mg base 3 "_law_bent" (sp_law_bent K)) : Kl P w K mg base 5 "_law_sum" (sp_law_sum K) := by
  have nd := sc__law_sum.nd
  refine Kl.by_body D sc__law_sum (fun vs H Q E h => ?_) (fun f cdv A outer s H vs Q E hr h => ?_)
  · obtain ⟨_, _, _, _, _, _, _, _, rfl, _⟩ := h
    rfl
  · obtain ⟨f, p, o, e, S, R, h, j, rfl, hf, hg, hp, ho, onS, onR, hS, hR, hhj, q⟩ := h
    have hu1 := hu_of hr
    refine ⟨_, (pss_cons (ps_if (PW.pt (pw_or (pt_cmpR (op_eqD hr.units) (pv 1) (pe_tup pa_nil) (nomark _)) (pw_or1 (pt_cmpR (op_eqD hr.units) (pv 2) (pe_tup pa_nil) (nomark _))))) (pss_one (ps_ret (pe_ifExp (pt_cmpR (op_eqD hr.units) (pv 1) (pe_tup pa_nil) (nomark _)) (pv 2) (pv 1)))) pss_nil)
      (pss_cons (ps_if (pt_cmpR (op_eqD hr.units) (pe_k c_law_turned  hr (by decide) (by rfl) (pa_cons (pv 0) (pa_cons (pv 1) pa_nil))) (pv 2) (nomark _)) (pss_one (ps_ret (pe_tup pa_nil))) pss_nil)
      (pss_cons (ps_asg (pv 1) (pg_tup rfl (pgs_cons (pg_name (i := 3) nd rfl (by first | exact Or.inl rfl | exact Or.inr rfl)) (pgs_cons (pg_name (i := 4) nd rfl (by first | exact Or.inl rfl | exact Or.inr rfl)) pgs_nil))))
      (C8.pss_cut (ps_if (pt_cmpR (op_eqD hr.units) (pv 1) (pv 2) (nomark _)) (pss_cons (ps_set (i := 5) nd rfl (by first | exact Or.inl rfl | exact Or.inr rfl) (pe_k c_law_plus  hr (by decide) (by rfl) (pa_cons (pe_k c_law_by  hr (by decide) (by rfl) (pa_cons (pe_tup (pa_cons pe_int (pa_cons pe_int pa_nil))) (pa_cons (pe_k c_law_by  hr (by decide) (by rfl) (pa_cons (pv 3) (pa_cons (pv 3) pa_nil))) pa_nil))) (pa_cons (pe_k c_law_plus  hr (by decide) (by rfl) (pa_cons (pe_k c_law_by  hr (by decide) (by rfl) (pa_cons (pe_tup (pa_cons (pe_op op_mul pe_int (pe_ix ix_tup (pv 0) pe_int (fun _ _ => rfl))) (pa_cons pe_int pa_nil))) (pa_cons (pv 3) pa_nil))) (pa_cons (pe_tup (pa_cons (pe_ix ix_tup (pv 0) pe_int (fun _ _ => rfl)) (pa_cons pe_int pa_nil))) pa_nil))) pa_nil))))
      (pss_cons (ps_set (i := 5) nd rfl (by first | exact Or.inl rfl | exact Or.inr rfl) (pe_k c_law_less  hr (by decide) (by rfl) (pa_cons (pv 5) (pa_cons (pe_k c_law_by  hr (by decide) (by rfl) (pa_cons (pe_tup (pa_cons (pe_ix ix_tup (pv 0) pe_int (fun _ _ => rfl)) (pa_cons pe_int pa_nil))) (pa_cons (pv 4) pa_nil))) pa_nil))))
      (pss_one (ps_set (i := 6) nd rfl (by first | exact Or.inl rfl | exact Or.inr rfl) (pe_k c_law_over  hr (by decide) (by rfl) (pa_cons (pv 5) (pa_cons (pe_k c_law_plus  hr (by decide) (by rfl) (pa_cons (pe_k c_law_by  hr (by decide) (by rfl) (pa_cons (pe_tup (pa_cons pe_int (pa_cons pe_int pa_nil))) (pa_cons (pv 4) pa_nil))) (pa_cons (pe_k c_law_bent  hr (by decide) (by rfl) (pa_cons (pv 0) (pa_cons (pv 3) pa_nil))) pa_nil))) pa_nil))))))) (pss_one (ps_set (i := 6) nd rfl (by first | exact Or.inl rfl | exact Or.inr rfl) (pe_k c_law_over  hr (by decide) (by rfl) (pa_cons (pe_k c_law_less  hr (by decide) (by rfl) (pa_cons (pe_ix ix_tup (pv 2) pe_int (fun _ _ => rfl)) (pa_cons (pv 4) pa_nil))) (pa_cons (pe_k c_law_less  hr (by decide) (by rfl) (pa_cons (pe_ix ix_tup (pv 2) pe_int (fun _ _ => rfl)) (pa_cons (pv 3) pa_nil))) pa_nil))))))
      (pss_cons (ps_set (i := 7) nd rfl (by first | exact Or.inl rfl | exact Or.inr rfl) (pe_k c_law_less  hr (by decide) (by rfl) (pa_cons (pe_k c_law_plus  hr (by decide) (by rfl) (pa_cons (pe_k c_law_by  hr (by decide) (by rfl) (pa_cons (pv 6) (pa_cons (pv 6) pa_nil))) (pa_cons (pe_k c_law_by  hr (by decide) (by rfl) (pa_cons (pe_tup (pa_cons (pe_ix ix_tup (pv 0) pe_int (fun _ _ => rfl)) (pa_cons pe_int pa_nil))) (pa_cons (pv 6) pa_nil))) pa_nil))) (pa_cons (pe_tup (pa_cons (pe_ix ix_tup (pv 0) pe_int (fun _ _ => rfl)) (pa_cons pe_int pa_nil))) pa_nil))))
      (pss_cons (ps_set (i := 7) nd rfl (by first | exact Or.inl rfl | exact Or.inr rfl) (pe_k c_law_less  hr (by decide) (by rfl) (pa_cons (pe_k c_law_less  hr (by decide) (by rfl) (pa_cons (pv 7) (pa_cons (pv 3) pa_nil))) (pa_cons (pe_ix ix_tup (pv 2) pe_int (fun _ _ => rfl)) pa_nil))))
      (pss_one (ps_ret (pe_k c_law_turned  hr (by decide) (by rfl) (pa_cons (pv 0) (pa_cons (pe_tup (pa_cons (pv 7) (pa_cons (pe_k c_law_plus  hr (by decide) (by rfl) (pa_cons (pv 4) (pa_cons (pe_k c_law_by  hr (by decide) (by rfl) (pa_cons (pv 6) (pa_cons (pe_k c_law_less  hr (by decide) (by rfl) (pa_cons (pv 7) (pa_cons (pv 3) pa_nil))) pa_nil))) pa_nil))) pa_nil))) pa_nil))))))))))), ?_⟩
    refine ⟨_, rfl, (by show 0 ≤ sizeLine; decide), fun z nz => ?_⟩
    have s1 := Same.new (H := H) (p := z) (o := .tup []) nz
    have gz : upd H z (.tup []) z = some (.tup []) := upd_same
    generalize upd H z (.tup []) = H1 at s1 gz ⊢
    refine ⟨dP S, .tuple [], dp_pt (hp.same s1), dp0 (tup_of gz), sh_P S, rfl, _, rfl, ?_⟩
    rw [eqv_P0]
    cases S with
    | none =>
      refine iteY rfl ?_
      refine ⟨_, rfl, (by show 0 ≤ sizeLine; decide), fun z2 nz2 => ?_⟩
      have s2 := Same.new (H := H1) (p := z2) (o := .tup []) nz2
      have gz2 : upd H1 z2 (.tup []) z2 = some (.tup []) := upd_same
      generalize upd H1 z2 (.tup []) = H2 at s2 gz2 ⊢
      have s02 := s1.trans s2
      refine ⟨dP none, .tuple [], dp_pt (hp.same s02), dp0 (tup_of gz2), sh_P none, rfl, _, rfl, iteT ?_⟩
      refine ⟨_, rfl, ?_⟩
      exact q o _ s02 (by cases R <;> exact ho.same s02)
    | some S =>
      refine iteN (by simp) ?_
      refine ⟨_, rfl, (by show 0 ≤ sizeLine; decide), fun z2 nz2 => ?_⟩
      have s2 := Same.new (H := H1) (p := z2) (o := .tup []) nz2
      have gz2 : upd H1 z2 (.tup []) z2 = some (.tup []) := upd_same
      generalize upd H1 z2 (.tup []) = H2 at s2 gz2 ⊢
      have s02 := s1.trans s2
      refine ⟨dP R, .tuple [], dp_pt (ho.same s02), dp0 (tup_of gz2), sh_P R, rfl, _, rfl, ?_⟩
      rw [eqv_P0]
      cases R with
      | none =>
        refine iteY rfl ?_
        refine ⟨_, rfl, (by show 0 ≤ sizeLine; decide), fun z3 nz3 => ?_⟩
        have s3 := Same.new (H := H2) (p := z3) (o := .tup []) nz3
        have gz3 : upd H2 z3 (.tup []) z3 = some (.tup []) := upd_same
        generalize upd H2 z3 (.tup []) = H3 at s3 gz3 ⊢
        have s03 := s02.trans s3
        refine ⟨dP (some S), .tuple [], dp_pt (hp.same s03), dp0 (tup_of gz3), sh_P (some S), rfl, _, rfl, iteF ?_⟩
        refine ⟨_, rfl, ?_⟩
        exact q p _ s03 (hp.same s03)
      | some R =>
        refine iteN (by simp) ?_
        obtain ⟨x, y⟩ := S
        obtain ⟨u, v⟩ := R
        replace hS : RB h x := hS
        replace hR : RB j u := hR
        have yB : RB (2 * h + 15) y := y_RB (h := h) (g := 15) onS hS hg
        have vB : RB (2 * j + 15) v := y_RB (h := j) (g := 15) onR hR hg
        have farB : HB (2 * h + 2 * j + 2 * 15 + 6) (sum e (some (x, y)) (some (u, v))) := sum_HB (h := h) (j := j) (g := 15) onS onR hS hR hg
        have aB : RB 15 ((e.a : Int) : Rat) := RB.int hg.a (by decide)
        have bB : RB 15 ((e.b : Int) : Rat) := RB.int hg.b (by decide)
        have a2B : RB 17 ((2 * e.a : Int) : Rat) := RB.int (B.mul (m := 2) (n := 15) (B.lit (by decide)) hg.a) (by decide)
        replace onS : y * y = e.f x := onS
        replace onR : v * v = e.f u := onR
        refine ⟨_, rfl, _, rfl, f, p, e, some (x, y), rfl, hf.same s02, hp.same s02, ⟨hS.up (by omega), yB.up (by omega)⟩, fun z3 H3 s3 hz3 => ?_⟩
        have s03 := s02.trans s3
        refine ⟨_, rfl, dP (neg (some (x, y))), dP (some (u, v)), dp_pt hz3, dp_pt (ho.same s03), sh_P (neg (some (x, y))), sh_P (some (u, v)), _, rfl, ?_⟩
        rw [eqv_P]
        by_cases hop : x = u ∧ -y = v
        · refine iteY (decide_eq_true (by show some (x, -y) = some (u, v); rw [hop.1, hop.2])) ?_
          refine ⟨(by show 0 ≤ sizeLine; decide), fun t nt => ?_⟩
          refine q t _ (s03.trans (Same.new nt)) ?_
          have : sum e (some (x, y)) (some (u, v)) = none := if_pos hop
          rw [this]
          exact tup_of upd_same
        refine iteN (fun h => hop (by
          have h1 := of_decide_eq_true h
          have h2 : some (x, -y) = some (u, v) := h1
          obtain ⟨h3, h4⟩ := Prod.mk.inj (Option.some.inj h2)
          exact ⟨h3, h4⟩)) ?_
        have esum : sum e (some (x, y)) (some (u, v)) = some (px e (slo e x y u v) x u, -(y + slo e x y u v * (px e (slo e x y u v) x u - x))) := if_neg hop
        rw [esum] at q farB
        replace farB : RB (2 * h + 2 * j + 2 * 15 + 6) (px e (slo e x y u v) x u) := farB
        clear esum hz3
        have hp3 := hp.same s03
        have ho3 := ho.same s03
        obtain ⟨px1, py1, g1, g2, g3⟩ := hp3
        obtain ⟨pu1, pv1, g4, g5, g6⟩ := ho3
        refine ⟨_, rfl, p, _, rfl, g1, rfl, _, _, rfl, _, _, rfl, rfl, ?_⟩
        first | refine sigN [some (.ref f), some (.ref p), some (.ref o), some (.ref px1), some (.ref py1), none, none, none] (by rfl) ?_ | refine sig [some (.ref f), some (.ref p), some (.ref o), some (.ref px1), some (.ref py1), none, none, none] (by rfl) ?_
        have hdS : Dp K H3 (.ref p) (dP (some (x, y))) := dp_pt (hp.same s03)
        have hdR : Dp K H3 (.ref o) (dP (some (u, v))) := dp_pt (ho.same s03)
        have hf3 := hf.same s03
        have E0 : FrE K H3 [(px1, x, h), (py1, y, 2 * h + 15), (pu1, u, j), (pv1, v, 2 * j + 15)] := FrE.add (FrE.add (FrE.add (FrE.add FrE.nil g6 vB) g5 hR) g3 yB) g2 hS
        have n2y : ∀ z : Rat, x = u ∧ y = v → 2 * y + z * 0 ≠ 0 := fun z h h2 => hop ⟨h.1, by obtain ⟨_, rfl⟩ := h; grind⟩
        have kB : RB (5 * (h + j) + 60) (slo e x y u v) := by
          by_cases hsame : x = u ∧ y = v
          · have n2 := n2y 0 hsame
            obtain ⟨rfl, rfl⟩ := hsame
            rw [sl_dbl]
            exact (RB.div (show 2 * y ≠ 0 by grind) ((rb_three.mul (hS.mul hS)).add ((a2B.mul hS).add bB)) (rb_two.mul yB)).up (by omega)
          · rw [sl_two hsame]
            have nx : u - x ≠ 0 := by
              intro h0
              have hx : x = u := by grind
              subst hx
              rcases same_x onS onR with z | z
              · exact hsame ⟨rfl, z⟩
              · exact hop ⟨rfl, z⟩
            exact (RB.div nx (vB.sub yB) (hR.sub hS)).up (by omega)
        refine ⟨fun σ H4 => Same H3 H4 ∧ ∃ up kk, σ = [some (.ref f), some (.ref p), some (.ref o), some (.ref px1), some (.ref py1), up, some (.ref kk), none] ∧ SqT K H4 kk (fq (slo e x y u v)), ?_, ?_⟩
        · refine ⟨_, rfl, _, rfl, dP (some (x, y)), dP (some (u, v)), hdS, hdR, sh_P _, sh_P _, _, rfl, ?_⟩
          rw [eqv_P]
          by_cases hsame : x = u ∧ y = v
          · have n2 := n2y 0 hsame
            obtain ⟨rfl, rfl⟩ := hsame
            refine iteY (decide_eq_true rfl) ?_
            refine ⟨(by show 2 ≤ sizeLine; decide), fun three nthree => ?_⟩
            obtain ⟨I1, eH_, i1, E1⟩ := litE E0 nthree fq_3 rb_three
            rw [eH_]
            clear eH_
            refine ⟨_, rfl, _, rfl, ?_⟩
            refine ⟨px1, px1, _, _, _, _, rfl, E1.get (by walk_at "mm"), E1.get (by walk_at "mm"), E1.rb (p := px1) (by walk_at "mm"), E1.rb (p := px1) (by walk_at "mm"), (by first | decide | omega), trivial, fun xx nxx => ?_⟩
            obtain ⟨I2, eH_, i2, E2⟩ := stepE E1 nxx (RB.mul (E1.rb (p := px1) (by walk_at "mm")) (E1.rb (p := px1) (by walk_at "mm")))
            rw [eH_]
            clear eH_
            refine ⟨three, xx, _, _, _, _, rfl, E2.get (by walk_at "mm"), E2.get (by walk_at "mm"), E2.rb (p := three) (by walk_at "mm"), E2.rb (p := xx) (by walk_at "mm"), (by first | decide | omega), trivial, fun txx ntxx => ?_⟩
            obtain ⟨I3, eH_, i3, E3⟩ := stepE E2 ntxx (RB.mul (E2.rb (p := three) (by walk_at "mm")) (E2.rb (p := xx) (by walk_at "mm")))
            rw [eH_]
            clear eH_
            refine ⟨_, rfl, f, _, 1, _, rfl, rfl, hf3.same (i1.trans (i2.trans i3)), rfl, _, _, rfl, rfl, Or.inl ⟨by decide, by decide⟩, ?_⟩
            refine ⟨(by show 2 ≤ sizeLine; decide), fun ta nta => ?_⟩
            obtain ⟨I4, eH_, i4, E4⟩ := litE E3 nta (fq_int _).symm a2B
            rw [eH_]
            clear eH_
            refine ⟨_, rfl, ?_⟩
            refine ⟨ta, px1, _, _, _, _, rfl, E4.get (by walk_at "mm"), E4.get (by walk_at "mm"), E4.rb (p := ta) (by walk_at "mm"), E4.rb (p := px1) (by walk_at "mm"), (by first | decide | omega), trivial, fun ax nax => ?_⟩
            obtain ⟨I5, eH_, i5, E5⟩ := stepE E4 nax (RB.mul (E4.rb (p := ta) (by walk_at "mm")) (E4.rb (p := px1) (by walk_at "mm")))
            rw [eH_]
            clear eH_
            have j5 := i1.trans (i2.trans (i3.trans (i4.trans i5)))
            clear i1 i2 i3 i4 i5 E1 E2 E3 E4
            refine ⟨_, rfl, f, _, 3, _, rfl, rfl, hf3.same j5, rfl, ?_⟩
            refine ⟨(by show 2 ≤ sizeLine; decide), fun tb ntb => ?_⟩
            obtain ⟨I6, eH_, i6, E6⟩ := litE E5 ntb (fq_int _).symm bB
            rw [eH_]
            clear eH_
            refine ⟨ax, tb, _, _, _, _, rfl, E6.get (by walk_at "mm"), E6.get (by walk_at "mm"), E6.rb (p := ax) (by walk_at "mm"), E6.rb (p := tb) (by walk_at "mm"), (by first | decide | omega), trivial, fun axb naxb => ?_⟩
            obtain ⟨I7, eH_, i7, E7⟩ := stepE E6 naxb (RB.add (E6.rb (p := ax) (by walk_at "mm")) (E6.rb (p := tb) (by walk_at "mm")))
            rw [eH_]
            clear eH_
            refine ⟨txx, axb, _, _, _, _, rfl, E7.get (by walk_at "mm"), E7.get (by walk_at "mm"), E7.rb (p := txx) (by walk_at "mm"), E7.rb (p := axb) (by walk_at "mm"), (by first | decide | omega), trivial, fun up1 nup1 => ?_⟩
            obtain ⟨I8, eH_, i8, E8⟩ := stepE E7 nup1 (RB.add (E7.rb (p := txx) (by walk_at "mm")) (E7.rb (p := axb) (by walk_at "mm")))
            rw [eH_]
            clear eH_
            first | refine sigN [some (.ref f), some (.ref p), some (.ref o), some (.ref px1), some (.ref py1), some (.ref up1), none, none] (by rfl) ?_ | refine sig [some (.ref f), some (.ref p), some (.ref o), some (.ref px1), some (.ref py1), some (.ref up1), none, none] (by rfl) ?_
            have j8 := j5.trans (i6.trans (i7.trans i8))
            clear j5 i6 i7 i8 E5 E6 E7
            refine ⟨_, rfl, _, rfl, f, _, 0, .int 0, rfl, rfl, hf3.same j8, rfl, ?_⟩
            refine ⟨(by show 2 ≤ sizeLine; decide), fun tz ntz => ?_⟩
            obtain ⟨I9, eH_, i9, E9⟩ := litE E8 ntz fq_0 RB.zero
            rw [eH_]
            clear eH_
            refine ⟨_, rfl, ?_⟩
            refine ⟨tz, py1, _, _, _, _, rfl, E9.get (by walk_at "mm"), E9.get (by walk_at "mm"), E9.rb (p := tz) (by walk_at "mm"), E9.rb (p := py1) (by walk_at "mm"), (by first | decide | omega), trivial, fun zy nzy => ?_⟩
            obtain ⟨Ia, eH_, ia, E10⟩ := stepE E9 nzy (RB.mul (E9.rb (p := tz) (by walk_at "mm")) (E9.rb (p := py1) (by walk_at "mm")))
            rw [eH_]
            clear eH_
            have E11 := E10.re (Rat.zero_mul _) RB.zero
            refine ⟨up1, zy, _, _, _, _, rfl, E11.get (by walk_at "mm"), E11.get (by walk_at "mm"), E11.rb (p := up1) (by walk_at "mm"), E11.rb (p := zy) (by walk_at "mm"), (by first | decide | omega), trivial, fun up2 nup2 => ?_⟩
            obtain ⟨Ib, eH_, ib, E12⟩ := stepE E11 nup2 (RB.sub (E11.rb (p := up1) (by walk_at "mm")) (E11.rb (p := zy) (by walk_at "mm")))
            rw [eH_]
            clear eH_
            first | refine sigN [some (.ref f), some (.ref p), some (.ref o), some (.ref px1), some (.ref py1), some (.ref up2), none, none] (by rfl) ?_ | refine sig [some (.ref f), some (.ref p), some (.ref o), some (.ref px1), some (.ref py1), some (.ref up2), none, none] (by rfl) ?_
            have jb := j8.trans (i9.trans (ia.trans ib))
            clear j8 i9 ia ib E8 E9 E10 E11
            refine ⟨_, rfl, ?_⟩
            refine ⟨(by show 2 ≤ sizeLine; decide), fun two ntwo => ?_⟩
            obtain ⟨Ic, eH_, ic, E13⟩ := litE E12 ntwo fq_2 rb_two
            rw [eH_]
            clear eH_
            refine ⟨_, rfl, ?_⟩
            refine ⟨two, py1, _, _, _, _, rfl, E13.get (by walk_at "mm"), E13.get (by walk_at "mm"), E13.rb (p := two) (by walk_at "mm"), E13.rb (p := py1) (by walk_at "mm"), (by first | decide | omega), trivial, fun ty nty => ?_⟩
            obtain ⟨Id, eH_, id, E14⟩ := stepE E13 nty (RB.mul (E13.rb (p := two) (by walk_at "mm")) (E13.rb (p := py1) (by walk_at "mm")))
            rw [eH_]
            clear eH_
            refine ⟨_, rfl, _, rfl, f, px1, e, x, rfl, hf3.same (jb.trans (ic.trans id)), E14.get (p := px1) (by walk_at "mm"), hS.up (by omega), fun tb0 ntb0 => ?_⟩
            obtain ⟨Ie, eH_, ie, E15⟩ := stepE E14 ntb0 RB.zero
            rw [eH_]
            clear eH_
            refine ⟨ty, tb0, _, _, _, _, rfl, E15.get (by walk_at "mm"), E15.get (by walk_at "mm"), E15.rb (p := ty) (by walk_at "mm"), E15.rb (p := tb0) (by walk_at "mm"), (by first | decide | omega), trivial, fun den nden => ?_⟩
            obtain ⟨If, eH_, ig, E16⟩ := stepE E15 nden (RB.add (E15.rb (p := ty) (by walk_at "mm")) (E15.rb (p := tb0) (by walk_at "mm")))
            rw [eH_]
            clear eH_
            have nden : 2 * y + 0 ≠ 0 := by grind
            refine ⟨up2, den, _, _, _, _, rfl, E16.get (by walk_at "mm"), E16.get (by walk_at "mm"), E16.rb (p := up2) (by walk_at "mm"), E16.rb (p := den) (by walk_at "mm"), (by first | decide | omega), nden, fun kk nkk => ?_⟩
            obtain ⟨Ig, eH_, ih, E17⟩ := stepE E16 nkk (RB.div nden (E16.rb (p := up2) (by walk_at "mm")) (E16.rb (p := den) (by walk_at "mm")))
            rw [eH_]
            clear eH_
            refine ⟨jb.trans (ic.trans (id.trans (ie.trans (ig.trans ih)))), _, kk, rfl, sq_eq (E17.get (p := kk) (by walk_at "mm")) ?_⟩
            rw [sl_dbl]
            grind
          · refine iteN (fun h => hsame (by
              have h1 := of_decide_eq_true h
              obtain ⟨h3, h4⟩ := Prod.mk.inj (Option.some.inj h1)
              exact ⟨h3, h4⟩)) ?_
            have nx : u - x ≠ 0 := by
              intro h0
              have hx : x = u := by grind
              subst hx
              rcases same_x onS onR with z | z
              · exact hsame ⟨rfl, z⟩
              · exact hop ⟨rfl, z⟩
            refine ⟨_, rfl, o, _, 1, .ref pv1, rfl, rfl, g4, rfl, _, rfl, ?_⟩
            refine ⟨pv1, py1, _, _, _, _, rfl, E0.get (by walk_at "mm"), E0.get (by walk_at "mm"), E0.rb (p := pv1) (by walk_at "mm"), E0.rb (p := py1) (by walk_at "mm"), (by first | decide | omega), trivial, fun d1 nd1 => ?_⟩
            obtain ⟨I1, eH_, i1, E1⟩ := stepE E0 nd1 (RB.sub (E0.rb (p := pv1) (by walk_at "mm")) (E0.rb (p := py1) (by walk_at "mm")))
            rw [eH_]
            clear eH_
            refine ⟨_, rfl, o, _, 0, .ref pu1, rfl, rfl, Same.tup i1 g4, rfl, _, rfl, ?_⟩
            refine ⟨pu1, px1, _, _, _, _, rfl, E1.get (by walk_at "mm"), E1.get (by walk_at "mm"), E1.rb (p := pu1) (by walk_at "mm"), E1.rb (p := px1) (by walk_at "mm"), (by first | decide | omega), trivial, fun d2 nd2 => ?_⟩
            obtain ⟨I2, eH_, i2, E2⟩ := stepE E1 nd2 (RB.sub (E1.rb (p := pu1) (by walk_at "mm")) (E1.rb (p := px1) (by walk_at "mm")))
            rw [eH_]
            clear eH_
            refine ⟨d1, d2, _, _, _, _, rfl, E2.get (by walk_at "mm"), E2.get (by walk_at "mm"), E2.rb (p := d1) (by walk_at "mm"), E2.rb (p := d2) (by walk_at "mm"), (by first | decide | omega), nx, fun kk nkk => ?_⟩
            obtain ⟨I3, eH_, i3, E3⟩ := stepE E2 nkk (RB.div nx (E2.rb (p := d1) (by walk_at "mm")) (E2.rb (p := d2) (by walk_at "mm")))
            rw [eH_]
            clear eH_
            refine ⟨i1.trans (i2.trans i3), _, kk, rfl, sq_eq (E3.get (p := kk) (by walk_at "mm")) ?_⟩
            rw [sl_two hsame]
        · rintro σ H4 ⟨s4, up, kk, rfl, gk⟩
          have F0 : FrE K H4 [(kk, slo e x y u v, 5 * (h + j) + 60), (px1, x, h), (py1, y, 2 * h + 15), (pu1, u, j), (pv1, v, 2 * j + 15)] := (E0.same s4).add gk kB
          obtain ⟨k, hk⟩ : ∃ k, slo e x y u v = k := ⟨_, rfl⟩
          rw [hk] at F0 q farB
          clear E0 gk kB hk
          have hf4 := hf3.same s4
          have g4' := Same.tup s4 g4
          refine ⟨_, rfl, _, rfl, ?_⟩
          refine ⟨kk, kk, _, _, _, _, rfl, F0.get (by walk_at "mm"), F0.get (by walk_at "mm"), F0.rb (p := kk) (by walk_at "mm"), F0.rb (p := kk) (by walk_at "mm"), (by first | decide | omega), trivial, fun k2 nk2 => ?_⟩
          obtain ⟨I1, eH_, i1, E1⟩ := stepE F0 nk2 (RB.mul (F0.rb (p := kk) (by walk_at "mm")) (F0.rb (p := kk) (by walk_at "mm")))
          rw [eH_]
          clear eH_
          refine ⟨_, rfl, f, _, 0, .int 0, rfl, rfl, hf4.same i1, rfl, ?_⟩
          refine ⟨(by show 2 ≤ sizeLine; decide), fun tz ntz => ?_⟩
          obtain ⟨I2, eH_, i2, E2⟩ := litE E1 ntz fq_0 RB.zero
          rw [eH_]
          clear eH_
          refine ⟨_, rfl, ?_⟩
          refine ⟨tz, kk, _, _, _, _, rfl, E2.get (by walk_at "mm"), E2.get (by walk_at "mm"), E2.rb (p := tz) (by walk_at "mm"), E2.rb (p := kk) (by walk_at "mm"), (by first | decide | omega), trivial, fun zk nzk => ?_⟩
          obtain ⟨I3, eH_, i3, E3⟩ := stepE E2 nzk (RB.mul (E2.rb (p := tz) (by walk_at "mm")) (E2.rb (p := kk) (by walk_at "mm")))
          rw [eH_]
          clear eH_
          have E4 := E3.re (Rat.zero_mul _) RB.zero
          refine ⟨k2, zk, _, _, _, _, rfl, E4.get (by walk_at "mm"), E4.get (by walk_at "mm"), E4.rb (p := k2) (by walk_at "mm"), E4.rb (p := zk) (by walk_at "mm"), (by first | decide | omega), trivial, fun k3 nk3 => ?_⟩
          obtain ⟨I4, eH_, i4, E5⟩ := stepE E4 nk3 (RB.add (E4.rb (p := k2) (by walk_at "mm")) (E4.rb (p := zk) (by walk_at "mm")))
          rw [eH_]
          clear eH_
          refine ⟨_, rfl, f, _, 1, _, rfl, rfl, hf4.same (i1.trans (i2.trans (i3.trans i4))), rfl, ?_⟩
          refine ⟨(by show 2 ≤ sizeLine; decide), fun ta nta => ?_⟩
          obtain ⟨I5, eH_, i5, E6⟩ := litE E5 nta (fq_int _).symm aB
          rw [eH_]
          clear eH_
          refine ⟨k3, ta, _, _, _, _, rfl, E6.get (by walk_at "mm"), E6.get (by walk_at "mm"), E6.rb (p := k3) (by walk_at "mm"), E6.rb (p := ta) (by walk_at "mm"), (by first | decide | omega), trivial, fun f1 nf1 => ?_⟩
          obtain ⟨I6, eH_, i6, E7⟩ := stepE E6 nf1 (RB.sub (E6.rb (p := k3) (by walk_at "mm")) (E6.rb (p := ta) (by walk_at "mm")))
          rw [eH_]
          clear eH_
          first | refine sigN [some (.ref f), some (.ref p), some (.ref o), some (.ref px1), some (.ref py1), up, some (.ref kk), some (.ref f1)] (by rfl) ?_ | refine sig [some (.ref f), some (.ref p), some (.ref o), some (.ref px1), some (.ref py1), up, some (.ref kk), some (.ref f1)] (by rfl) ?_
          have j6 := i1.trans (i2.trans (i3.trans (i4.trans (i5.trans i6))))
          clear i1 i2 i3 i4 i5 i6 E1 E2 E3 E4 E5 E6
          refine ⟨_, rfl, _, rfl, ?_⟩
          refine ⟨f1, px1, _, _, _, _, rfl, E7.get (by walk_at "mm"), E7.get (by walk_at "mm"), E7.rb (p := f1) (by walk_at "mm"), E7.rb (p := px1) (by walk_at "mm"), (by first | decide | omega), trivial, fun f2 nf2 => ?_⟩
          obtain ⟨I7, eH_, i7, E8⟩ := stepE E7 nf2 (RB.sub (E7.rb (p := f1) (by walk_at "mm")) (E7.rb (p := px1) (by walk_at "mm")))
          rw [eH_]
          clear eH_
          refine ⟨_, rfl, o, _, 0, .ref pu1, rfl, rfl, Same.tup (j6.trans i7) g4', rfl, ?_⟩
          refine ⟨f2, pu1, _, _, _, _, rfl, E8.get (by walk_at "mm"), E8.get (by walk_at "mm"), E8.rb (p := f2) (by walk_at "mm"), E8.rb (p := pu1) (by walk_at "mm"), (by first | decide | omega), trivial, fun f3 nf3 => ?_⟩
          obtain ⟨I8, eH_, i8, E9⟩ := stepE E8 nf3 (RB.sub (E8.rb (p := f2) (by walk_at "mm")) (E8.rb (p := pu1) (by walk_at "mm")))
          rw [eH_]
          clear eH_
          first | refine sigN [some (.ref f), some (.ref p), some (.ref o), some (.ref px1), some (.ref py1), up, some (.ref kk), some (.ref f3)] (by rfl) ?_ | refine sig [some (.ref f), some (.ref p), some (.ref o), some (.ref px1), some (.ref py1), up, some (.ref kk), some (.ref f3)] (by rfl) ?_
          have E10 := E9.re (b := px e k x u) (by unfold px; grind) farB
          have j8 := j6.trans (i7.trans i8)
          clear j6 i7 i8 E7 E8 E9
          refine ⟨_, rfl, _, rfl, _, rfl, _, rfl, _, rfl, _, rfl, ?_⟩
          refine ⟨f3, px1, _, _, _, _, rfl, E10.get (by walk_at "mm"), E10.get (by walk_at "mm"), E10.rb (p := f3) (by walk_at "mm"), E10.rb (p := px1) (by walk_at "mm"), (by first | decide | omega), trivial, fun hh1 nhh1 => ?_⟩
          obtain ⟨I9, eH_, i9, E11⟩ := stepE E10 nhh1 (RB.sub (E10.rb (p := f3) (by walk_at "mm")) (E10.rb (p := px1) (by walk_at "mm")))
          rw [eH_]
          clear eH_
          refine ⟨kk, hh1, _, _, _, _, rfl, E11.get (by walk_at "mm"), E11.get (by walk_at "mm"), E11.rb (p := kk) (by walk_at "mm"), E11.rb (p := hh1) (by walk_at "mm"), (by first | decide | omega), trivial, fun hh2 nhh2 => ?_⟩
          obtain ⟨Ia, eH_, ia, E12⟩ := stepE E11 nhh2 (RB.mul (E11.rb (p := kk) (by walk_at "mm")) (E11.rb (p := hh1) (by walk_at "mm")))
          rw [eH_]
          clear eH_
          refine ⟨py1, hh2, _, _, _, _, rfl, E12.get (by walk_at "mm"), E12.get (by walk_at "mm"), E12.rb (p := py1) (by walk_at "mm"), E12.rb (p := hh2) (by walk_at "mm"), (by first | decide | omega), trivial, fun hh3 nhh3 => ?_⟩
          obtain ⟨Ib, eH_, ib, E13⟩ := stepE E12 nhh3 (RB.add (E12.rb (p := py1) (by walk_at "mm")) (E12.rb (p := hh2) (by walk_at "mm")))
          rw [eH_]
          clear eH_
          refine ⟨(by show 2 ≤ sizeLine; decide), fun r nr => ?_⟩
          have ic := Same.new (H := Ib) (p := r) (o := .tup [.ref f3, .ref hh3]) nr
          have gr : upd Ib r (.tup [.ref f3, .ref hh3]) r = some (.tup [.ref f3, .ref hh3]) := upd_same
          generalize upd Ib r (.tup [.ref f3, .ref hh3]) = Ic at ic gr ⊢
          have E14 := E13.same ic
          have jc := j8.trans (i9.trans (ia.trans (ib.trans ic)))
          refine ⟨f, r, e, some (px e k x u, y + k * (px e k x u - x)), rfl, hf4.same jc, ⟨f3, hh3, tup_of gr, E14.get (p := f3) (by walk_at "mm"), E14.get (p := hh3) (by walk_at "mm")⟩, ⟨farB.up (by omega), (E14.rb (p := hh3) (by walk_at "mm")).up (by omega)⟩, fun t H' s9 ht => ?_⟩
          exact q t H' (s03.trans (s4.trans (jc.trans s9))) ht
end
end K52
set_option Elab.async false
set_option linter.all false
set_option maxRecDepth 100000
set_option maxHeartbeats 4000000
namespace K52
open PySem PySem.Spec PyProof.Rows L2 Gd QM EcM EcP
theorem HB.pb {e : Ec} {P : Pt} (h : On e P) (k : HB 12 P) (g : e.Bd 15) : PB 7000 P := by
  match P, h, k with
  | none, _, _ => trivial
  | some (x, y), h, k => exact ⟨RB.up k (by decide), (y_RB (h := 12) (g := 15) h k g).up (by decide)⟩
theorem neg_HB {h : Nat} {P : Pt} (k : HB h P) : HB h (neg P) := by
  match P, k with
  | none, _ => trivial
  | some (x, y), k => exact k
/-- where the walk stands -/
inductive St (e : Ec) (n : Nat) : Nat → Pt → Pt → Prop
  | a {T : Pt} : On e T → HB 12 T → St e n n none T
  | b {F T : Pt} : 1 ≤ n → On e F → HB 12 F → (n = 4 → F = none) → On e T → HB 84 T → St e n (n / 2) F T
  | c {F T : Pt} : 2 ≤ n → n ≤ 3 → On e F → HB 228 F → On e T → HB 84 T → St e n 0 F T
  | d {T : Pt} : n = 4 → On e T → HB 372 T → St e n 1 none T
  | z {F T : Pt} : n = 4 → On e F → HB 372 F → On e T → HB 372 T → St e n 0 F T
theorem sum_none (e : Ec) (T : Pt) : sum e none T = T := rfl
theorem dbl_HB {e : Ec} {S : Pt} (h : On e S) (k : HB 12 S) (g : e.Bd 15) : HB 84 (sum e S S) := sum_HB (h := 12) (j := 12) (g := 15) h h k k g
theorem St.step {e : Ec} {F T : Pt} {n j : Nat} (g : e.Bd 15) (h : St e n j F T) (hn : n ≤ 4) (hj : j ≠ 0) : St e n (j / 2) (if j % 2 = 1 then sum e F T else F) (if 0 < j / 2 then sum e T T else T) := by
  cases h with
  | a o b =>
    rw [sum_none]
    refine .b (by omega) ?_ ?_ ?_ ?_ ?_
    · split
      · exact o
      · exact trivial
    · split
      · exact b
      · exact trivial
    · intro z
      rw [if_neg (by omega)]
    · split
      · exact o.sum o
      · exact o
    · split
      · exact dbl_HB o b g
      · exact HB.up (h := 12) (k := 84) b (by decide)
  | b h1 o b f o2 b2 =>
    rcases (show n / 2 = 1 ∧ n ≤ 3 ∧ 2 ≤ n ∨ n = 4 by omega) with ⟨e1, e2, e3⟩ | rfl
    · rw [e1, if_pos (show 1 % 2 = 1 from rfl), if_neg (show ¬ 0 < 1 / 2 by decide)]
      exact .c e3 e2 (o.sum o2) (sum_HB (h := 12) (j := 84) (g := 15) o o2 b b2 g) o2 b2
    · obtain rfl := f rfl
      exact .d rfl (o2.sum o2) (sum_HB (h := 84) (j := 84) (g := 15) o2 o2 b2 b2 g)
  | c => exact absurd rfl hj
  | d h1 o b => exact .z h1 o b o b
  | z => exact absurd rfl hj
theorem St.ok {e : Ec} {F T : Pt} {n j : Nat} (h : St e n j F T) (hn : n ≤ 4) : On e F ∧ On e T ∧ (j ≠ 0 → ∃ h1 h2, HB h1 F ∧ HB h2 T ∧ h1 + h2 ≤ 400) ∧ (0 < j / 2 → ∃ h, HB h T ∧ h + h ≤ 400) := by
  cases h with
  | a o b => exact ⟨trivial, o, fun _ => ⟨12, 12, trivial, b, by decide⟩, fun _ => ⟨12, b, by decide⟩⟩
  | b h1 o b f o2 b2 => exact ⟨o, o2, fun _ => ⟨12, 84, b, b2, by decide⟩, fun _ => ⟨84, b2, by decide⟩⟩
  | c h1 h2 o b o2 b2 => exact ⟨o, o2, fun z => absurd rfl z, fun _ => ⟨84, b2, by decide⟩⟩
  | d h1 o b => exact ⟨trivial, o, fun _ => ⟨12, 372, trivial, b, by decide⟩, fun z => absurd z (by decide)⟩
  | z h1 o b o2 b2 => exact ⟨o, o2, fun z => absurd rfl z, fun z => absurd z (by decide)⟩
theorem St.fin {e : Ec} {F T : Pt} {n j : Nat} (h : St e n j F T) (hj : j = 0) (hn : n ≤ 4) : On e F ∧ HB 372 F := by
  cases h with
  | a o b => exact ⟨trivial, trivial⟩
  | b h1 o b f o2 b2 => exact ⟨o, HB.up (h := 12) (k := 372) b (by decide)⟩
  | c h1 h2 o b o2 b2 => exact ⟨o, HB.up (h := 228) (k := 372) b (by decide)⟩
  | d h1 o b => exact absurd hj (by decide)
  | z h1 o b o2 b2 => exact ⟨o, b⟩
section
variable {P : Program} {w : World} {K : PySem.W.Frag} {mg : Str → Option Value} {base : Heap}
/-! ### the multiple -/
def sp_times0 (K : PySem.W.Frag) : Sp := fun vs H Q _ => ∃ (f p : Addr) (e : Ec) (n : Nat) (S : Pt), vs = [.ref f, .int (n : Int), .ref p] ∧ FivT K H f e ∧ e.Bd 15 ∧ PtT K H p S ∧ On e S ∧ HB 12 S ∧ n ≤ 4 ∧ ∀ t H' T, Same H H' → PtT K H' t T → On e T → HB 372 T → Q (.ref t) H'
abbrev s__law_times_of : Stmt := topS 38
theorem sc__law_times_of : FnScope ["five", "n", "point", "found", "step"] ["five", "n", "point"] (defScope s__law_times_of) := ⟨rfl, rfl, rfl, by decide +kernel, rfl, by decide +kernel, by decide +kernel⟩
theorem k_times0 (T : Tx K mg) (D : Df K mg "_law_times_of" s__law_times_of ["five", "n", "point"]) (c_law_turned : Kl P w K mg base 4 "_law_turned" (sp_law_turned K)) (c_law_sum : Kl P w K mg base 5 "_law_sum" (sp_law_sum K)) : Kl P w K mg base 6 "_law_times_of" (sp_times0 K) := by
  have nd := sc__law_times_of.nd
  refine Kl.by_body D sc__law_times_of (fun vs H Q E h => ?_) (fun f cdv A outer s H vs Q E hr h => ?_)
  · obtain ⟨_, _, _, _, _, rfl, _⟩ := h
    rfl
  · obtain ⟨f, p, e, n, S, rfl, hf, hg, hp, hS, hB, hn, q⟩ := h
    have c_law_times_of : Kl P w K mg base (0 + 1) "_law_times_of" (fun _ _ _ _ => False) := Kl.by_body D sc__law_times_of (fun _ _ _ _ h => h.elim) (fun _ _ _ _ _ _ _ _ _ _ h => h.elim)
    have hu1 := hu_of hr
    refine ⟨_, (pss_cons (ps_if (pt_cmpR op_lt (pv 1) pe_int (nomark _)) (pss_one (ps_ret (pe_k c_law_times_of  hr (by decide) (by rfl) (pa_cons (pv 0) (pa_cons (pe_un un_neg (pv 1)) (pa_cons (pe_k c_law_turned  hr (by decide) (by rfl) (pa_cons (pv 0) (pa_cons (pv 2) pa_nil))) pa_nil)))))) pss_nil)
      (pss_cons (ps_par (i := 3) (j := 4) (by rfl) nd rfl rfl (by decide) rfl rfl (pa_cons (pe_tup pa_nil) (pa_cons (pv 2) pa_nil)) (by rfl))
      (pss_cons (ps_while PassesOwn.never (pt_cmpR op_gt (pv 1) pe_int (nomark _)) (C8.pss_cut (ps_if (pt_cmpR op_ne (pe_op op_mul (pe_op op_fdiv (pv 1) pe_int) pe_int) (pv 1) (nomark _)) (pss_one (ps_set (i := 3) nd rfl (by first | exact Or.inl rfl | exact Or.inr rfl) (pe_k c_law_sum  hr (by decide) (by rfl) (pa_cons (pv 0) (pa_cons (pv 3) (pa_cons (pv 4) pa_nil)))))) pss_nil)
      (pss_cons (ps_set (i := 1) nd rfl (by first | exact Or.inl rfl | exact Or.inr rfl) (pe_op op_fdiv (pv 1) pe_int))
      (pss_one (ps_if (pt_cmpR op_gt (pv 1) pe_int (nomark _)) (pss_one (ps_set (i := 4) nd rfl (by first | exact Or.inl rfl | exact Or.inr rfl) (pe_k c_law_sum  hr (by decide) (by rfl) (pa_cons (pv 0) (pa_cons (pv 4) (pa_cons (pv 4) pa_nil)))))) pss_nil)))))
      (pss_one (ps_ret (pv 3)))))), ?_⟩
    refine ⟨_, rfl, _, _, rfl, rfl, _, rfl, iteN (by simp) ?_⟩
    refine ⟨(by show 0 ≤ sizeLine; decide), fun z nz => ?_⟩
    have s1 := Same.new (H := H) (p := z) (o := .tup []) nz
    have gz : upd H z (.tup []) z = some (.tup []) := upd_same
    generalize upd H z (.tup []) = H1 at s1 gz ⊢
    
    refine ⟨_, rfl, _, _, rfl, ?_⟩
    first | refine sigN [some (.ref f), some (.int ((n : Int))), some (.ref p), some (.ref z), some (.ref p)] (by rfl) ?_ | refine sig [some (.ref f), some (.int ((n : Int))), some (.ref p), some (.ref z), some (.ref p)] (by rfl) ?_
    have hf1 := hf.same s1
    refine while_by (fun σ H2 => Same H1 H2 ∧ ∃ (j : Nat) (fo st : Addr) (F T : Pt), σ = [some (.ref f), some (.int (j : Int)), some (.ref p), some (.ref fo), some (.ref st)] ∧ PtT K H2 fo F ∧ PtT K H2 st T ∧ St e n j F T)
      (fun σ _ => match σ with | [_, some (.int j), _, _, _] => j.toNat | _ => 0) ⟨Same.refl _, n, z, p, none, S, rfl, tup_of gz, hp.same s1, .a hS hB⟩ ?_ ?_
    · rintro σ H2 ⟨s2, j, fo, st, F, T, rfl, hF, hT, hs⟩
      obtain ⟨oF, oT, hft, htt⟩ := hs.ok hn
      refine ⟨_, rfl, _, _, rfl, rfl, _, rfl, ?_⟩
      by_cases hj : j = 0
      · refine iteN (by simp; omega) ?_
        obtain ⟨f1, f2⟩ := hs.fin hj hn; exact ⟨_, rfl, q fo _ F (s1.trans s2) hF f1 f2⟩
      · refine iteY (by simp; omega) ?_
        have nx := hs.step hg hn hj; obtain ⟨h1, h2, bF, bT, h12⟩ := hft hj
        have hf2 := hf1.same s2
        refine ⟨fun σ H3 => Same H2 H3 ∧ ∃ fo', σ = [some (.ref f), some (.int (j : Int)), some (.ref p), some (.ref fo'), some (.ref st)] ∧ PtT K H3 fo' (if j % 2 = 1 then sum e F T else F), ?_, ?_⟩
        · refine ⟨_, rfl, _, _, rfl, rfl, ⟨by decide, by decide⟩, _, _, rfl, rfl, Or.inr ⟨by decide, by decide⟩, _, rfl, rfl, _, rfl, ?_⟩
          by_cases hp2 : j % 2 = 1
          · refine iteY (by simp; omega) ?_
            refine ⟨_, rfl, _, rfl, _, rfl, f, fo, st, e, F, T, h1, h2, rfl, hf2, hg, hF, hT, oF, oT, bF, bT, h12, fun t H3 s3 ht => ?_⟩
            refine ⟨s3, t, rfl, ?_⟩
            rw [if_pos hp2]
            exact ht
          · refine iteN (by simp; omega) ?_
            refine ⟨Same.refl _, fo, rfl, ?_⟩
            rw [if_neg hp2]
            exact hF
        · rintro σ H3 ⟨s3, fo', rfl, hF'⟩
          have ej : ((j : Int)) / 2 = ((j / 2 : Nat) : Int) := by omega
          refine ⟨_, rfl, _, _, rfl, rfl, ⟨by decide, by decide⟩, ?_⟩
          refine sigN [some (.ref f), some (.int ((j / 2 : Nat) : Int)), some (.ref p), some (.ref fo'), some (.ref st)] (by rw [← ej]; rfl) ?_
          refine ⟨_, rfl, _, _, rfl, rfl, _, rfl, ?_⟩
          have dj : ((j / 2 : Nat) : Int).toNat < (j : Int).toNat := by omega
          by_cases hz : 0 < j / 2
          · refine iteY (by simp; omega) ?_
            obtain ⟨h3, bT3, h33⟩ := htt hz
            rw [if_pos hz] at nx
            refine ⟨_, rfl, _, rfl, _, rfl, f, st, st, e, T, T, h3, h3, rfl, hf2.same s3, hg, hT.same s3, hT.same s3, oT, oT, bT3, bT3, h33, fun t H4 s4 ht => ?_⟩
            exact ⟨⟨s2.trans (s3.trans s4), j / 2, fo', t, _, _, rfl, hF'.same s4, ht, nx⟩, dj⟩
          · refine iteN (by simp; omega) ?_
            rw [if_neg hz] at nx
            exact ⟨⟨s2.trans s3, j / 2, fo', st, _, _, rfl, hF', hT.same s3, nx⟩, dj⟩
    · rintro σ H2 Q1 Q2 i ⟨v, hv, x, y, e1, e2, c, hc, k⟩
      exact ⟨v, hv, x, y, e1, e2, c, hc, i _ _ k⟩
def sp_law_times_of (K : PySem.W.Frag) : Sp := fun vs H Q _ => ∃ (f p : Addr) (e : Ec) (n : Int) (S : Pt), vs = [.ref f, .int n, .ref p] ∧ FivT K H f e ∧ e.Bd 15 ∧ PtT K H p S ∧ On e S ∧ HB 12 S ∧ -4 ≤ n ∧ n ≤ 4 ∧ ∀ t H' T, Same H H' → PtT K H' t T → On e T → HB 372 T → Q (.ref t) H'
theorem k_law_times_of (T : Tx K mg) (D : Df K mg "_law_times_of" s__law_times_of ["five", "n", "point"]) (c_law_turned : Kl P w K mg base 4 "_law_turned" (sp_law_turned K)) (c_law_sum : Kl P w K mg base 5 "_law_sum" (sp_law_sum K)) : Kl P w K mg base 7 "_law_times_of" (sp_law_times_of K) := by
  have nd := sc__law_times_of.nd
  refine Kl.by_body D sc__law_times_of (fun vs H Q E h => ?_) (fun f cdv A outer s H vs Q E hr h => ?_)
  · obtain ⟨_, _, _, _, _, rfl, _⟩ := h
    rfl
  · obtain ⟨f, p, e, n, S, rfl, hf, hg, hp, hS, hB, hn1, hn3, q⟩ := h
    have c_times0 := k_times0 T D c_law_turned c_law_sum
    rcases (show 0 ≤ n ∨ n < 0 by omega) with h0 | h0
    · obtain ⟨n, rfl⟩ := Int.eq_ofNat_of_zero_le h0
      have hn : n ≤ 4 := by omega
      have c_law_times_of := c_times0
      have hu1 := hu_of hr
      refine ⟨_, (pss_cons (ps_if (pt_cmpR op_lt (pv 1) pe_int (nomark _)) (pss_one (ps_ret (pe_k c_law_times_of  hr (by decide) (by rfl) (pa_cons (pv 0) (pa_cons (pe_un un_neg (pv 1)) (pa_cons (pe_k c_law_turned  hr (by decide) (by rfl) (pa_cons (pv 0) (pa_cons (pv 2) pa_nil))) pa_nil)))))) pss_nil)
      (pss_cons (ps_par (i := 3) (j := 4) (by rfl) nd rfl rfl (by decide) rfl rfl (pa_cons (pe_tup pa_nil) (pa_cons (pv 2) pa_nil)) (by rfl))
      (pss_cons (ps_while PassesOwn.never (pt_cmpR op_gt (pv 1) pe_int (nomark _)) (C8.pss_cut (ps_if (pt_cmpR op_ne (pe_op op_mul (pe_op op_fdiv (pv 1) pe_int) pe_int) (pv 1) (nomark _)) (pss_one (ps_set (i := 3) nd rfl (by first | exact Or.inl rfl | exact Or.inr rfl) (pe_k c_law_sum  hr (by decide) (by rfl) (pa_cons (pv 0) (pa_cons (pv 3) (pa_cons (pv 4) pa_nil)))))) pss_nil)
      (pss_cons (ps_set (i := 1) nd rfl (by first | exact Or.inl rfl | exact Or.inr rfl) (pe_op op_fdiv (pv 1) pe_int))
      (pss_one (ps_if (pt_cmpR op_gt (pv 1) pe_int (nomark _)) (pss_one (ps_set (i := 4) nd rfl (by first | exact Or.inl rfl | exact Or.inr rfl) (pe_k c_law_sum  hr (by decide) (by rfl) (pa_cons (pv 0) (pa_cons (pv 4) (pa_cons (pv 4) pa_nil)))))) pss_nil)))))
      (pss_one (ps_ret (pv 3)))))), ?_⟩
      refine ⟨_, rfl, _, _, rfl, rfl, _, rfl, iteN (by simp) ?_⟩
      refine ⟨(by show 0 ≤ sizeLine; decide), fun z nz => ?_⟩
      have s1 := Same.new (H := H) (p := z) (o := .tup []) nz
      have gz : upd H z (.tup []) z = some (.tup []) := upd_same
      generalize upd H z (.tup []) = H1 at s1 gz ⊢
      
      refine ⟨_, rfl, _, _, rfl, ?_⟩
      first | refine sigN [some (.ref f), some (.int ((n : Int))), some (.ref p), some (.ref z), some (.ref p)] (by rfl) ?_ | refine sig [some (.ref f), some (.int ((n : Int))), some (.ref p), some (.ref z), some (.ref p)] (by rfl) ?_
      have hf1 := hf.same s1
      refine while_by (fun σ H2 => Same H1 H2 ∧ ∃ (j : Nat) (fo st : Addr) (F T : Pt), σ = [some (.ref f), some (.int (j : Int)), some (.ref p), some (.ref fo), some (.ref st)] ∧ PtT K H2 fo F ∧ PtT K H2 st T ∧ St e n j F T)
        (fun σ _ => match σ with | [_, some (.int j), _, _, _] => j.toNat | _ => 0) ⟨Same.refl _, n, z, p, none, S, rfl, tup_of gz, hp.same s1, .a hS hB⟩ ?_ ?_
      · rintro σ H2 ⟨s2, j, fo, st, F, T, rfl, hF, hT, hs⟩
        obtain ⟨oF, oT, hft, htt⟩ := hs.ok hn
        refine ⟨_, rfl, _, _, rfl, rfl, _, rfl, ?_⟩
        by_cases hj : j = 0
        · refine iteN (by simp; omega) ?_
          obtain ⟨f1, f2⟩ := hs.fin hj hn; exact ⟨_, rfl, q fo _ F (s1.trans s2) hF f1 f2⟩
        · refine iteY (by simp; omega) ?_
          have nx := hs.step hg hn hj; obtain ⟨h1, h2, bF, bT, h12⟩ := hft hj
          have hf2 := hf1.same s2
          refine ⟨fun σ H3 => Same H2 H3 ∧ ∃ fo', σ = [some (.ref f), some (.int (j : Int)), some (.ref p), some (.ref fo'), some (.ref st)] ∧ PtT K H3 fo' (if j % 2 = 1 then sum e F T else F), ?_, ?_⟩
          · refine ⟨_, rfl, _, _, rfl, rfl, ⟨by decide, by decide⟩, _, _, rfl, rfl, Or.inr ⟨by decide, by decide⟩, _, rfl, rfl, _, rfl, ?_⟩
            by_cases hp2 : j % 2 = 1
            · refine iteY (by simp; omega) ?_
              refine ⟨_, rfl, _, rfl, _, rfl, f, fo, st, e, F, T, h1, h2, rfl, hf2, hg, hF, hT, oF, oT, bF, bT, h12, fun t H3 s3 ht => ?_⟩
              refine ⟨s3, t, rfl, ?_⟩
              rw [if_pos hp2]
              exact ht
            · refine iteN (by simp; omega) ?_
              refine ⟨Same.refl _, fo, rfl, ?_⟩
              rw [if_neg hp2]
              exact hF
          · rintro σ H3 ⟨s3, fo', rfl, hF'⟩
            have ej : ((j : Int)) / 2 = ((j / 2 : Nat) : Int) := by omega
            refine ⟨_, rfl, _, _, rfl, rfl, ⟨by decide, by decide⟩, ?_⟩
            refine sigN [some (.ref f), some (.int ((j / 2 : Nat) : Int)), some (.ref p), some (.ref fo'), some (.ref st)] (by rw [← ej]; rfl) ?_
            refine ⟨_, rfl, _, _, rfl, rfl, _, rfl, ?_⟩
            have dj : ((j / 2 : Nat) : Int).toNat < (j : Int).toNat := by omega
            by_cases hz : 0 < j / 2
            · refine iteY (by simp; omega) ?_
              obtain ⟨h3, bT3, h33⟩ := htt hz
              rw [if_pos hz] at nx
              refine ⟨_, rfl, _, rfl, _, rfl, f, st, st, e, T, T, h3, h3, rfl, hf2.same s3, hg, hT.same s3, hT.same s3, oT, oT, bT3, bT3, h33, fun t H4 s4 ht => ?_⟩
              exact ⟨⟨s2.trans (s3.trans s4), j / 2, fo', t, _, _, rfl, hF'.same s4, ht, nx⟩, dj⟩
            · refine iteN (by simp; omega) ?_
              rw [if_neg hz] at nx
              exact ⟨⟨s2.trans s3, j / 2, fo', st, _, _, rfl, hF', hT.same s3, nx⟩, dj⟩
      · rintro σ H2 Q1 Q2 i ⟨v, hv, x, y, e1, e2, c, hc, k⟩
        exact ⟨v, hv, x, y, e1, e2, c, hc, i _ _ k⟩
    · have c_law_times_of := c_times0
      have hu1 := hu_of hr
      refine ⟨_, (pss_cons (ps_if (pt_cmpR op_lt (pv 1) pe_int (nomark _)) (pss_one (ps_ret (pe_k c_law_times_of  hr (by decide) (by rfl) (pa_cons (pv 0) (pa_cons (pe_un un_neg (pv 1)) (pa_cons (pe_k c_law_turned  hr (by decide) (by rfl) (pa_cons (pv 0) (pa_cons (pv 2) pa_nil))) pa_nil)))))) pss_nil)
      (pss_cons (ps_par (i := 3) (j := 4) (by rfl) nd rfl rfl (by decide) rfl rfl (pa_cons (pe_tup pa_nil) (pa_cons (pv 2) pa_nil)) (by rfl))
      (pss_cons (ps_while PassesOwn.never (pt_cmpR op_gt (pv 1) pe_int (nomark _)) (C8.pss_cut (ps_if (pt_cmpR op_ne (pe_op op_mul (pe_op op_fdiv (pv 1) pe_int) pe_int) (pv 1) (nomark _)) (pss_one (ps_set (i := 3) nd rfl (by first | exact Or.inl rfl | exact Or.inr rfl) (pe_k c_law_sum  hr (by decide) (by rfl) (pa_cons (pv 0) (pa_cons (pv 3) (pa_cons (pv 4) pa_nil)))))) pss_nil)
      (pss_cons (ps_set (i := 1) nd rfl (by first | exact Or.inl rfl | exact Or.inr rfl) (pe_op op_fdiv (pv 1) pe_int))
      (pss_one (ps_if (pt_cmpR op_gt (pv 1) pe_int (nomark _)) (pss_one (ps_set (i := 4) nd rfl (by first | exact Or.inl rfl | exact Or.inr rfl) (pe_k c_law_sum  hr (by decide) (by rfl) (pa_cons (pv 0) (pa_cons (pv 4) (pa_cons (pv 4) pa_nil)))))) pss_nil)))))
      (pss_one (ps_ret (pv 3)))))), ?_⟩
      refine ⟨_, rfl, _, _, rfl, rfl, _, rfl, iteY (by simp; omega) ?_⟩
      refine ⟨_, rfl, _, rfl, _, rfl, _, rfl, _, rfl, f, p, e, S, rfl, hf, hp, HB.pb hS hB hg, fun t H1 s1 ht => ?_⟩
      refine ⟨f, t, e, n.natAbs, neg S, ?_, hf.same s1, hg, ht, hS.neg, neg_HB hB, by omega, fun t2 H2 T2 s2 ht2 h2 h3 => ?_⟩
      · show [V.ref f, V.int (-n), V.ref t] = _
        rw [show -n = (n.natAbs : Int) by omega]
      · exact q t2 H2 T2 (s1.trans s2) ht2 h2 h3
end
end K52
set_option Elab.async false
set_option linter.all false
set_option maxRecDepth 100000
set_option maxHeartbeats 4000000
namespace K52
open PySem PySem.Spec PyProof.Rows L2 Gd QM EcM EcP
local macro_rules | `(tactic| walk_at "bd") => `(tactic| (repeat (first | assumption | apply B.add | apply B.sub | apply B.mul | apply B.neg | exact B.lit (n := 8) (by decide))))
local macro_rules | `(tactic| walk_at "bu") => `(tactic| (apply B.up; walk_at "bd"; decide))
local macro_rules | `(tactic| walk_at "bnd") => `(tactic| (apply B.mulW; walk_at "bd"; decide))
section
variable {P : Program} {w : World} {K : PySem.W.Frag} {mg : Str → Option Value} {base : Heap}
/-! ### on the curve -/
theorem cubic_of (e : Ec) {x : Rat} {A D : Int} (h : x * (D : Rat) = (A : Rat)) (h0 : (D : Rat) ≠ 0) : Rat.divInt (A * A * A + e.a * A * A * D + (e.b * A + e.c * D) * D * D) (D * D * D) = e.f x := by
  rw [Rat.divInt_eq_div]
  push_cast
  rw [← h]
  unfold Ec.f
  generalize (D : Rat) = d at h0 ⊢
  grind
theorem cubic_is (e : Ec) (x : Rat) : Rat.divInt (x.num * x.num * x.num + e.a * x.num * x.num * (x.den : Int) + (e.b * x.num + e.c * (x.den : Int)) * (x.den : Int) * (x.den : Int)) ((x.den : Int) * (x.den : Int) * (x.den : Int)) = e.f x := cubic_of e (x_num x) (denR x)
def sp_law_cubic (K : PySem.W.Frag) : Sp := fun vs H Q _ => ∃ (f p : Addr) (e : Ec) (x : Rat), vs = [.ref f, .ref p] ∧ FivT K H f e ∧ e.Bd 15 ∧ SqT K H p (fq x) ∧ RB 200 x ∧ ∀ t, H t = none → Q (.ref t) (upd H t (.tup (fq (e.f x))))
abbrev s__law_cubic : Stmt := topS 33
theorem sc__law_cubic : FnScope ["five", "x", "n", "d", "first", "second"] ["five", "x"] (defScope s__law_cubic) := ⟨rfl, rfl, rfl, by decide +kernel, rfl, by decide +kernel, by decide +kernel⟩
theorem k_law_cubic (T : Tx K mg) (D : Df K mg "_law_cubic" s__law_cubic ["five", "x"]) (c_law_cut : Kl P w K mg base 2 "_law_cut" (sp_law_cut K)) : Kl P w K mg base 3 "_law_cubic" (sp_law_cubic K) := by
  have nd := sc__law_cubic.nd
  refine Kl.by_body D sc__law_cubic (fun vs H Q E h => ?_) (fun f cdv A outer s H vs Q E hr h => ?_)
  · obtain ⟨_, _, _, _, rfl, _⟩ := h
    rfl
  · obtain ⟨f, p, e, x, rfl, hf, hg, hp, hx, q⟩ := h
    have hu1 := hu_of hr
    refine ⟨_, (pss_cons (ps_asg (pv 1) (pg_tup rfl (pgs_cons (pg_name (i := 2) nd rfl (by first | exact Or.inl rfl | exact Or.inr rfl)) (pgs_cons (pg_name (i := 3) nd rfl (by first | exact Or.inl rfl | exact Or.inr rfl)) pgs_nil))))
      (pss_cons (ps_set (i := 4) nd rfl (by first | exact Or.inl rfl | exact Or.inr rfl) (pe_op op_add (pe_op op_mulW (pe_op op_mulW (pv 2) (pv 2)) (pv 2)) (pe_op op_mulW (pe_op op_mulW (pe_op op_mulW (pe_ix ix_tup (pv 0) pe_int (fun _ _ => rfl)) (pv 2)) (pv 2)) (pv 3))))
      (pss_cons (ps_set (i := 5) nd rfl (by first | exact Or.inl rfl | exact Or.inr rfl) (pe_op op_add (pe_op op_mulW (pe_ix ix_tup (pv 0) pe_int (fun _ _ => rfl)) (pv 2)) (pe_op op_mulW (pe_ix ix_tup (pv 0) pe_int (fun _ _ => rfl)) (pv 3))))
      (pss_one (ps_ret (pe_k c_law_cut  hr (by decide) (by rfl) (pa_cons (pe_op op_add (pv 4) (pe_op op_mulW (pe_op op_mulW (pv 5) (pv 3)) (pv 3))) (pa_cons (pe_op op_mulW (pe_op op_mulW (pv 3) (pv 3)) (pv 3)) pa_nil)))))))), ?_⟩
    have nB : B 200 x.num := hx.n
    have dB : B 200 (x.den : Int) := hx.d
    have aB : B 15 e.a := hg.a
    have bB : B 15 e.b := hg.b
    have cB : B 15 e.c := hg.c
    refine ⟨_, rfl, p, _, rfl, hp, rfl, _, _, rfl, _, _, rfl, rfl, ?_⟩
    first | refine sigN [some (.ref f), some (.ref p), some (.int (x.num)), some (.int ((x.den : Int))), none, none] (by rfl) ?_ | refine sig [some (.ref f), some (.ref p), some (.int (x.num)), some (.int ((x.den : Int))), none, none] (by rfl) ?_
    have hp1 : SqT K H f [.int 0, .int e.a, .int 0, .int e.b, .int e.c] := hf
    have b1 : B 700 (x.num * x.num * x.num + e.a * x.num * x.num * (x.den : Int)) := by walk_at "bu"
    have b2 : B 300 (e.b * x.num + e.c * (x.den : Int)) := by walk_at "bu"
    have b3 : B 900 (x.num * x.num * x.num + e.a * x.num * x.num * (x.den : Int) + (e.b * x.num + e.c * (x.den : Int)) * (x.den : Int) * (x.den : Int)) := by walk_at "bu"
    have b4 : B 900 ((x.den : Int) * (x.den : Int) * (x.den : Int)) := by walk_at "bu"
    have e0 := cubic_is e x
    have d0 := mul_ne (mul_ne (den_ne x) (den_ne x)) (den_ne x)
    generalize x.num = n at *
    generalize (x.den : Int) = d at *
    refine ⟨_, rfl, _, rfl, _, _, rfl, rfl, (by walk_at "bnd"), _, rfl, _, _, rfl, rfl, (by walk_at "bnd"), _, rfl, f, _, 1, .int e.a, rfl, rfl, hp1, rfl, _, rfl, _, _, rfl, rfl, (by walk_at "bnd"), _, rfl, _, _, rfl, rfl, (by walk_at "bnd"), _, rfl, _, _, rfl, rfl, (by walk_at "bnd"), _, _, rfl, rfl, ?_⟩
    first | refine sigN [some (.ref f), some (.ref p), some (.int (n)), some (.int (d)), some (.int (n * n * n + e.a * n * n * d)), none] (by rfl) ?_ | refine sig [some (.ref f), some (.ref p), some (.int (n)), some (.int (d)), some (.int (n * n * n + e.a * n * n * d)), none] (by rfl) ?_
    refine ⟨_, rfl, f, _, 3, .int e.b, rfl, rfl, hp1, rfl, _, rfl, _, _, rfl, rfl, (by walk_at "bnd"), _, rfl, f, _, 4, .int e.c, rfl, rfl, hp1, rfl, _, rfl, _, _, rfl, rfl, (by walk_at "bnd"), _, _, rfl, rfl, ?_⟩
    first | refine sigN [some (.ref f), some (.ref p), some (.int (n)), some (.int (d)), some (.int (n * n * n + e.a * n * n * d)), some (.int (e.b * n + e.c * d))] (by rfl) ?_ | refine sig [some (.ref f), some (.ref p), some (.int (n)), some (.int (d)), some (.int (n * n * n + e.a * n * n * d)), some (.int (e.b * n + e.c * d))] (by rfl) ?_
    refine ⟨_, rfl, _, rfl, _, rfl, _, _, rfl, rfl, b2.mulW dB (by decide), _, rfl, _, _, rfl, rfl, (b2.mul dB).mulW dB (by decide), _, _, rfl, rfl, _, rfl, _, rfl, _, _, rfl, rfl, dB.mulW dB (by decide), _, rfl, _, _, rfl, rfl, (dB.mul dB).mulW dB (by decide), _, _, rfl, d0, b3.up (by decide), b4.up (by decide), fun t nt => ?_⟩
    rw [e0]
    exact q t nt
def sp_law_on (K : PySem.W.Frag) : Sp := fun vs H Q _ => ∃ (f p : Addr) (e : Ec) (S : Pt), vs = [.ref f, .ref p] ∧ FivT K H f e ∧ e.Bd 15 ∧ PtT K H p S ∧ On e S ∧ HB 200 S ∧ ∀ H', Same H H' → Q (.bl true) H'
abbrev s__law_on : Stmt := topS 35
theorem sc__law_on : FnScope ["five", "point", "x", "y"] ["five", "point"] (defScope s__law_on) := ⟨rfl, rfl, rfl, by decide +kernel, rfl, by decide +kernel, by decide +kernel⟩
theorem k_law_on (T : Tx K mg) (D : Df K mg "_law_on" s__law_on ["five", "point"]) (c_law_by : Kl P w K mg base 3 "_law_by" (sp_law_by K)) (c_law_cubic : Kl P w K mg base 3 "_law_cubic" (sp_law_cubic K)) (c_law_plus : Kl P w K mg base 3 "_law_plus" (sp_law_plus K)) (c_law_bent : Kl P w K mg base 3 "_law_bent" (sp_law_bent K)) : Kl P w K mg base 4 "_law_on" (sp_law_on K) := by
  have nd := sc__law_on.nd
  refine Kl.by_body D sc__law_on (fun vs H Q E h => ?_) (fun f cdv A outer s H vs Q E hr h => ?_)
  · obtain ⟨_, _, _, _, rfl, _⟩ := h
    rfl
  · obtain ⟨f, p, e, S, rfl, hf, hg, hp, hS, hB, q⟩ := h
    have hu1 := hu_of hr
    refine ⟨_, (pss_cons (ps_if (pt_cmpR (op_eqD hr.units) (pv 1) (pe_tup pa_nil) (nomark _)) (pss_one (ps_ret pe_bl)) pss_nil)
      (pss_cons (ps_asg (pv 1) (pg_tup rfl (pgs_cons (pg_name (i := 2) nd rfl (by first | exact Or.inl rfl | exact Or.inr rfl)) (pgs_cons (pg_name (i := 3) nd rfl (by first | exact Or.inl rfl | exact Or.inr rfl)) pgs_nil))))
      (pss_one (ps_ret (pe_cmpR (op_eqD hr.units) (pe_k c_law_by  hr (by decide) (by rfl) (pa_cons (pv 3) (pa_cons (pe_k c_law_plus  hr (by decide) (by rfl) (pa_cons (pv 3) (pa_cons (pe_k c_law_bent  hr (by decide) (by rfl) (pa_cons (pv 0) (pa_cons (pv 2) pa_nil))) pa_nil))) pa_nil))) (pe_k c_law_cubic  hr (by decide) (by rfl) (pa_cons (pv 0) (pa_cons (pv 2) pa_nil))) (nomark _)))))), ?_⟩
    refine ⟨_, rfl, (by show 0 ≤ sizeLine; decide), fun z nz => ?_⟩
    have s1 := Same.new (H := H) (p := z) (o := .tup []) nz
    have gz : upd H z (.tup []) z = some (.tup []) := upd_same
    generalize upd H z (.tup []) = H1 at s1 gz ⊢
    cases S with
    | none =>
      refine ⟨dP none, .tuple [], dp_pt (hp.same s1), dp0 (tup_of gz), sh_P none, rfl, _, rfl, iteT ?_⟩
      exact q _ s1
    | some S =>
      obtain ⟨x, y⟩ := S
      obtain ⟨a, b, h1, h2, h3⟩ := hp
      replace hB : RB 200 x := hB
      have yB : RB 415 y := y_RB (h := 200) (g := 15) hS hB hg
      refine ⟨dP (some (x, y)), .tuple [], dp_pt ⟨a, b, Same.tup s1 h1, Same.tup s1 h2, Same.tup s1 h3⟩, dp0 (tup_of gz), sh_P (some (x, y)), rfl, _, rfl, iteF ?_⟩
      refine ⟨_, rfl, p, _, rfl, Same.tup s1 h1, rfl, _, _, rfl, _, _, rfl, rfl, ?_⟩
      first | refine sigN [some (.ref f), some (.ref p), some (.ref a), some (.ref b)] (by rfl) ?_ | refine sig [some (.ref f), some (.ref p), some (.ref a), some (.ref b)] (by rfl) ?_
      have h2' := Same.tup s1 h2
      have h3' := Same.tup s1 h3
      refine ⟨_, rfl, _, rfl, _, rfl, _, rfl, f, a, e, x, rfl, hf.same s1, h2', hB.up (by decide), fun c nc => ?_⟩
      have s2 := Same.new (H := H1) (p := c) (o := .tup (fq 0)) nc
      have gc : upd H1 c (.tup (fq 0)) c = some (.tup (fq 0)) := upd_same
      generalize upd H1 c (.tup (fq 0)) = H2 at s2 gc ⊢
      refine ⟨b, c, y, 0, _, _, rfl, Same.tup s2 h3', tup_of gc, yB, RB.zero, by decide, trivial, fun d nd => ?_⟩
      have s3 := Same.new (H := H2) (p := d) (o := .tup (fq (y + 0))) nd
      have gd : upd H2 d (.tup (fq (y + 0))) d = some (.tup (fq (y + 0))) := upd_same
      generalize upd H2 d (.tup (fq (y + 0))) = H3 at s3 gd ⊢
      have y0B : RB 417 (y + 0) := (RB.add yB RB.zero).up (by decide)
      refine ⟨b, d, y, y + 0, _, _, rfl, Same.tup (s2.trans s3) h3', tup_of gd, yB, y0B, by decide, trivial, fun g ng => ?_⟩
      have s4 := Same.new (H := H3) (p := g) (o := .tup (fq (y * (y + 0)))) ng
      have gg : upd H3 g (.tup (fq (y * (y + 0)))) g = some (.tup (fq (y * (y + 0)))) := upd_same
      generalize upd H3 g (.tup (fq (y * (y + 0)))) = H4 at s4 gg ⊢
      have s14 := s2.trans (s3.trans s4)
      refine ⟨_, rfl, _, rfl, f, a, e, x, rfl, hf.same (s1.trans s14), hg, Same.tup s14 h2', hB, fun r nr => ?_⟩
      have s5 := Same.new (H := H4) (p := r) (o := .tup (fq (e.f x))) nr
      have gr : upd H4 r (.tup (fq (e.f x))) r = some (.tup (fq (e.f x))) := upd_same
      generalize upd H4 r (.tup (fq (e.f x))) = H5 at s5 gr ⊢
      refine ⟨dq (y * (y + 0)), dq (e.f x), dp_q (tup_of (s5 _ _ gg)), dp_q (tup_of gr), rfl, rfl, ?_⟩
      rw [eqv_q]
      have e1 : y * (y + 0) = e.f x := by
        rw [Rat.add_zero]
        exact hS
      rw [decide_eq_true e1]
      exact q _ (s1.trans (s14.trans s5))
/-! ### amounts -/
def qa (q : Rat) : Rat := if 0 ≤ q.num then q else -q
theorem qa_fq (q : Rat) : [V.int (q.num.natAbs : Int), V.int (q.den : Int)] = fq (qa q) := by
  unfold qa fq
  split
  · rename_i h
    rw [show (q.num.natAbs : Int) = q.num by omega]
  · rename_i h
    rw [Rat.neg_num, Rat.neg_den, show (q.num.natAbs : Int) = -q.num by omega]
def sp_amount (K : PySem.W.Frag) : Sp := fun vs H Q _ => ∃ (f : Addr) (a : Rat), vs = [.ref f] ∧ SqT K H f (fq a) ∧ ∀ t, H t = none → Q (.ref t) (upd H t (.tup (fq (qa a))))
abbrev s_amount : Stmt := topS 13
theorem sc_amount : FnScope ["f"] ["f"] (defScope s_amount) := ⟨rfl, rfl, rfl, by decide +kernel, rfl, by decide +kernel, by decide +kernel⟩
theorem k_amount (T : Tx K mg) (D : Df K mg "amount" s_amount ["f"])  : Kl P w K mg base 1 "amount" (sp_amount K) := by
  have nd := sc_amount.nd
  refine Kl.by_body D sc_amount (fun vs H Q E h => ?_) (fun f cdv A outer s H vs Q E hr h => ?_)
  · obtain ⟨_, _, rfl, _⟩ := h
    rfl
  · obtain ⟨f, a, rfl, hf, q⟩ := h
    have hu1 := hu_of hr
    refine ⟨_, (pss_one (ps_ret (pe_tup (pa_cons (pe_callB call_abs (by rfl) T.abs (by decide +kernel) (pa_cons (pe_ix ix_tup (pv 0) pe_int (fun _ _ => rfl)) pa_nil)) (pa_cons (pe_ix ix_tup (pv 0) pe_int (fun _ _ => rfl)) pa_nil))))), ?_⟩
    refine ⟨_, rfl, f, _, 0, .int a.num, rfl, rfl, hf, rfl, a.num, rfl, _, rfl, f, _, 1, .int (a.den : Int), rfl, rfl, hf, rfl, (by show 2 ≤ sizeLine; decide), fun t nt => ?_⟩
    rw [← qa_fq, ← abs_eq] at q
    exact q t nt
def sp_law_amount : PySem.W.Frag → Sp := sp_amount
abbrev s__law_amount : Stmt := topS 39
theorem sc__law_amount : FnScope ["f"] ["f"] (defScope s__law_amount) := ⟨rfl, rfl, rfl, by decide +kernel, rfl, by decide +kernel, by decide +kernel⟩
theorem k_law_amount (T : Tx K mg) (D : Df K mg "_law_amount" s__law_amount ["f"])  : Kl P w K mg base 1 "_law_amount" (sp_law_amount K) := by
  have nd := sc__law_amount.nd
  refine Kl.by_body D sc__law_amount (fun vs H Q E h => ?_) (fun f cdv A outer s H vs Q E hr h => ?_)
  · obtain ⟨_, _, rfl, _⟩ := h
    rfl
  · obtain ⟨f, a, rfl, hf, q⟩ := h
    have hu1 := hu_of hr
    refine ⟨_, (pss_one (ps_ret (pe_tup (pa_cons (pe_callB call_abs (by rfl) T.abs (by decide +kernel) (pa_cons (pe_ix ix_tup (pv 0) pe_int (fun _ _ => rfl)) pa_nil)) (pa_cons (pe_ix ix_tup (pv 0) pe_int (fun _ _ => rfl)) pa_nil))))), ?_⟩
    refine ⟨_, rfl, f, _, 0, .int a.num, rfl, rfl, hf, rfl, a.num, rfl, _, rfl, f, _, 1, .int (a.den : Int), rfl, rfl, hf, rfl, (by show 2 ≤ sizeLine; decide), fun t nt => ?_⟩
    rw [← qa_fq, ← abs_eq] at q
    exact q t nt
/-! ### which is below -/
def bel (a b : Rat) : Prop := a.num * (b.den : Int) < b.num * (a.den : Int)
instance (a b : Rat) : Decidable (bel a b) := inferInstanceAs (Decidable (_ < _))
theorem bel_eq {a b : Rat} (h : ¬ bel a b) (k : ¬ bel b a) : a = b := by
  unfold bel at *
  have e : a.num * (b.den : Int) = b.num * (a.den : Int) := by omega
  rw [as_div a, as_div b]
  have ha := denR a
  have hb := denR b
  have e2 : (a.num : Rat) * ((b.den : Int) : Rat) = (b.num : Rat) * ((a.den : Int) : Rat) := by exact_mod_cast e
  generalize ((a.den : Int) : Rat) = p at *
  generalize ((b.den : Int) : Rat) = q at *
  grind
def sp_is_below (K : PySem.W.Frag) : Sp := fun vs H Q _ => ∃ (f g : Addr) (a b : Rat), vs = [.ref f, .ref g] ∧ SqT K H f (fq a) ∧ SqT K H g (fq b) ∧ RB 4000 a ∧ RB 4000 b ∧ Q (.bl (decide (bel a b))) H
abbrev s_is_below : Stmt := topS 11
theorem sc_is_below : FnScope ["f", "g"] ["f", "g"] (defScope s_is_below) := ⟨rfl, rfl, rfl, by decide +kernel, rfl, by decide +kernel, by decide +kernel⟩
theorem k_is_below (T : Tx K mg) (D : Df K mg "is_below" s_is_below ["f", "g"])  : Kl P w K mg base 1 "is_below" (sp_is_below K) := by
  have nd := sc_is_below.nd
  refine Kl.by_body D sc_is_below (fun vs H Q E h => ?_) (fun f cdv A outer s H vs Q E hr h => ?_)
  · obtain ⟨_, _, _, _, rfl, _⟩ := h
    rfl
  · obtain ⟨f, g, a, b, rfl, hf, hg, ha, hb, q⟩ := h
    have hu1 := hu_of hr
    refine ⟨_, (pss_one (ps_ret (pe_cmpR op_lt (pe_op op_mulW (pe_ix ix_tup (pv 0) pe_int (fun _ _ => rfl)) (pe_ix ix_tup (pv 1) pe_int (fun _ _ => rfl))) (pe_op op_mulW (pe_ix ix_tup (pv 1) pe_int (fun _ _ => rfl)) (pe_ix ix_tup (pv 0) pe_int (fun _ _ => rfl))) (nomark _)))), ?_⟩
    exact ⟨_, rfl, f, _, 0, _, rfl, rfl, hf, rfl, _, rfl, g, _, 1, _, rfl, rfl, hg, rfl, _, _, rfl, rfl, ha.n.mulW hb.d (by decide), _, rfl, g, _, 0, _, rfl, rfl, hg, rfl, _, rfl, f, _, 1, _, rfl, rfl, hf, rfl, _, _, rfl, rfl, hb.n.mulW ha.d (by decide), _, _, rfl, rfl, q⟩
def sp_law_is_below : PySem.W.Frag → Sp := sp_is_below
abbrev s__law_is_below : Stmt := topS 40
theorem sc__law_is_below : FnScope ["f", "g"] ["f", "g"] (defScope s__law_is_below) := ⟨rfl, rfl, rfl, by decide +kernel, rfl, by decide +kernel, by decide +kernel⟩
theorem k_law_is_below (T : Tx K mg) (D : Df K mg "_law_is_below" s__law_is_below ["f", "g"])  : Kl P w K mg base 1 "_law_is_below" (sp_law_is_below K) := by
  have nd := sc__law_is_below.nd
  refine Kl.by_body D sc__law_is_below (fun vs H Q E h => ?_) (fun f cdv A outer s H vs Q E hr h => ?_)
  · obtain ⟨_, _, _, _, rfl, _⟩ := h
    rfl
  · obtain ⟨f, g, a, b, rfl, hf, hg, ha, hb, q⟩ := h
    have hu1 := hu_of hr
    refine ⟨_, (pss_one (ps_ret (pe_cmpR op_lt (pe_op op_mulW (pe_ix ix_tup (pv 0) pe_int (fun _ _ => rfl)) (pe_ix ix_tup (pv 1) pe_int (fun _ _ => rfl))) (pe_op op_mulW (pe_ix ix_tup (pv 1) pe_int (fun _ _ => rfl)) (pe_ix ix_tup (pv 0) pe_int (fun _ _ => rfl))) (nomark _)))), ?_⟩
    exact ⟨_, rfl, f, _, 0, _, rfl, rfl, hf, rfl, _, rfl, g, _, 1, _, rfl, rfl, hg, rfl, _, _, rfl, rfl, ha.n.mulW hb.d (by decide), _, rfl, g, _, 0, _, rfl, rfl, hg, rfl, _, rfl, f, _, 1, _, rfl, rfl, hf, rfl, _, _, rfl, rfl, hb.n.mulW ha.d (by decide), _, _, rfl, rfl, q⟩
/-! ### the curve of triangles -/
def sp_triangle_curve (K : PySem.W.Frag) : Sp := fun vs H Q _ => ∃ n : Int, vs = [.int n] ∧ B 100 n ∧ ∀ t, H t = none → Q (.ref t) (upd H t (.tup [.int 0, .int (-n * n), .int 0]))
abbrev s_triangle_curve : Stmt := topS 14
theorem sc_triangle_curve : FnScope ["n"] ["n"] (defScope s_triangle_curve) := ⟨rfl, rfl, rfl, by decide +kernel, rfl, by decide +kernel, by decide +kernel⟩
theorem k_triangle_curve (T : Tx K mg) (D : Df K mg "triangle_curve" s_triangle_curve ["n"])  : Kl P w K mg base 1 "triangle_curve" (sp_triangle_curve K) := by
  have nd := sc_triangle_curve.nd
  refine Kl.by_body D sc_triangle_curve (fun vs H Q E h => ?_) (fun f cdv A outer s H vs Q E hr h => ?_)
  · obtain ⟨_, rfl, _⟩ := h
    rfl
  · obtain ⟨n, rfl, hn, q⟩ := h
    have hu1 := hu_of hr
    refine ⟨_, (pss_one (ps_ret (pe_tup (pa_cons pe_int (pa_cons (pe_op op_mulW (pe_un un_neg (pv 0)) (pv 0)) (pa_cons pe_int pa_nil)))))), ?_⟩
    exact ⟨_, rfl, _, rfl, _, rfl, _, _, rfl, rfl, hn.neg.mulW hn (by decide), (by show 3 ≤ sizeLine; decide), fun t nt => q t nt⟩
end
end K52
set_option Elab.async false
set_option linter.all false
set_option maxRecDepth 100000
set_option maxHeartbeats 4000000
namespace K52
open PySem PySem.Spec PyProof.Rows L2 Gd QM EcM EcP
local macro_rules | `(tactic| walk_at "mm") => `(tactic| (repeat (first | exact List.mem_cons_self | apply List.mem_cons_of_mem)))
/-- the point of a triple -/
def tpt (n : Int) (c : C3) : Rat × Rat := ((n : Rat) * (c.1 + c.2.2) / c.2.1, ((2 * n * n : Int) : Rat) * (c.1 + c.2.2) / (c.2.1 * c.2.1))
/-- the triangle of a point -/
def told (n : Int) : Pt → Option C3
  | none => none
  | some (x, y) => if y = 0 then none else
      if bel (qa ((x * x - ((n * n : Int) : Rat)) / y)) (qa (((2 * n : Int) : Rat) * x / y)) then some (qa ((x * x - ((n * n : Int) : Rat)) / y), qa (((2 * n : Int) : Rat) * x / y), qa ((x * x + ((n * n : Int) : Rat)) / y))
      else some (qa (((2 * n : Int) : Rat) * x / y), qa ((x * x - ((n * n : Int) : Rat)) / y), qa ((x * x + ((n * n : Int) : Rat)) / y))
theorem qmul_ne {a b : Rat} (h : a ≠ 0) (k : b ≠ 0) : a * b ≠ 0 := fun z => by
  rcases Rat.mul_eq_zero.mp z with z | z
  · exact h z
  · exact k z
theorem qa_RB {m : Nat} {q : Rat} (h : RB m q) : RB m (qa q) := by
  unfold qa
  split
  · exact h
  · exact h.neg
/-- the sizes of a point whose triangle is told -/
def TB : Pt → Prop
  | none => True
  | some (x, y) => RB 400 x ∧ RB 820 y
section
variable {P : Program} {w : World} {K : PySem.W.Frag} {mg : Str → Option Value} {base : Heap}
def sp_triangle_point (K : PySem.W.Frag) : Sp := fun vs H Q _ => ∃ (n : Int) (p : Addr) (c : C3), vs = [.int n, .ref p] ∧ B 8 n ∧ TrT K H p c ∧ RB 40 c.1 ∧ RB 40 c.2.1 ∧ RB 40 c.2.2 ∧ c.2.1 ≠ 0 ∧ ∀ t H', Same H H' → PtT K H' t (some (tpt n c)) → Q (.ref t) H'
abbrev s_triangle_point : Stmt := topS 16
theorem sc_triangle_point : FnScope ["n", "triangle", "a", "b", "c", "both"] ["n", "triangle"] (defScope s_triangle_point) := ⟨rfl, rfl, rfl, by decide +kernel, rfl, by decide +kernel, by decide +kernel⟩
theorem k_triangle_point (T : Tx K mg) (D : Df K mg "triangle_point" s_triangle_point ["n", "triangle"]) (c_plus : Kl P w K mg base 2 "plus" (sp_plus K)) (c_over : Kl P w K mg base 2 "over" (sp_over K)) (c_times : Kl P w K mg base 2 "times" (sp_times K)) : Kl P w K mg base 3 "triangle_point" (sp_triangle_point K) := by
  have nd := sc_triangle_point.nd
  refine Kl.by_body D sc_triangle_point (fun vs H Q E h => ?_) (fun f cdv A outer s H vs Q E hr h => ?_)
  · obtain ⟨_, _, _, rfl, _⟩ := h
    rfl
  · obtain ⟨n, p, ⟨c1, c2, c3⟩, rfl, hn, ⟨pa, pb, pc, h0, h1, h2, h3⟩, b1, b2, b3, nz, q⟩ := h
    have hu1 := hu_of hr
    refine ⟨_, (pss_cons (ps_asg (pv 1) (pg_tup rfl (pgs_cons (pg_name (i := 2) nd rfl (by first | exact Or.inl rfl | exact Or.inr rfl)) (pgs_cons (pg_name (i := 3) nd rfl (by first | exact Or.inl rfl | exact Or.inr rfl)) (pgs_cons (pg_name (i := 4) nd rfl (by first | exact Or.inl rfl | exact Or.inr rfl)) pgs_nil)))))
      (pss_cons (ps_set (i := 5) nd rfl (by first | exact Or.inl rfl | exact Or.inr rfl) (pe_k c_plus  hr (by decide) (by rfl) (pa_cons (pv 2) (pa_cons (pv 4) pa_nil))))
      (pss_one (ps_ret (pe_tup (pa_cons (pe_k c_over  hr (by decide) (by rfl) (pa_cons (pe_k c_times  hr (by decide) (by rfl) (pa_cons (pe_tup (pa_cons (pv 0) (pa_cons pe_int pa_nil))) (pa_cons (pv 5) pa_nil))) (pa_cons (pv 3) pa_nil))) (pa_cons (pe_k c_over  hr (by decide) (by rfl) (pa_cons (pe_k c_times  hr (by decide) (by rfl) (pa_cons (pe_tup (pa_cons (pe_op op_mulW (pe_op op_mul pe_int (pv 0)) (pv 0)) (pa_cons pe_int pa_nil))) (pa_cons (pv 5) pa_nil))) (pa_cons (pe_k c_times  hr (by decide) (by rfl) (pa_cons (pv 3) (pa_cons (pv 3) pa_nil))) pa_nil))) pa_nil))))))), ?_⟩
    replace h1 : SqT K H pa (fq c1) := h1
    replace h2 : SqT K H pb (fq c2) := h2
    replace h3 : SqT K H pc (fq c3) := h3
    replace b1 : RB 40 c1 := b1
    replace b2 : RB 40 c2 := b2
    replace b3 : RB 40 c3 := b3
    replace nz : c2 ≠ 0 := nz
    have nB : RB 8 ((n : Int) : Rat) := RB.int hn (by decide)
    have nnB : RB 19 ((2 * n * n : Int) : Rat) := RB.int (((B.lit (n := 2) (x := 2) (by decide)).mul hn).mul hn |>.up (by decide)) (by decide)
    refine ⟨_, rfl, p, _, rfl, h0, rfl, _, _, rfl, _, _, rfl, _, _, rfl, rfl, ?_⟩
    first | refine sigN [some (.int (n)), some (.ref p), some (.ref pa), some (.ref pb), some (.ref pc), none] (by rfl) ?_ | refine sig [some (.int (n)), some (.ref p), some (.ref pa), some (.ref pb), some (.ref pc), none] (by rfl) ?_
    have E0 : FrE K H [(pa, c1, 40), (pb, c2, 40), (pc, c3, 40)] := FrE.add (FrE.add (FrE.add FrE.nil h3 b3) h2 b2) h1 b1
    refine ⟨_, rfl, _, rfl, ?_⟩
    refine ⟨pa, pc, _, _, _, _, rfl, E0.get (by walk_at "mm"), E0.get (by walk_at "mm"), E0.rb (p := pa) (by walk_at "mm"), E0.rb (p := pc) (by walk_at "mm"), (by first | decide | omega), trivial, fun both nboth => ?_⟩
    obtain ⟨H1, eH_, s1, E1⟩ := stepE E0 nboth (RB.add (E0.rb (p := pa) (by walk_at "mm")) (E0.rb (p := pc) (by walk_at "mm")))
    rw [eH_]
    clear eH_
    first | refine sigN [some (.int (n)), some (.ref p), some (.ref pa), some (.ref pb), some (.ref pc), some (.ref both)] (by rfl) ?_ | refine sig [some (.int (n)), some (.ref p), some (.ref pa), some (.ref pb), some (.ref pc), some (.ref both)] (by rfl) ?_
    refine ⟨_, rfl, ?_⟩
    refine ⟨(by show 2 ≤ sizeLine; decide), fun tn ntn => ?_⟩
    obtain ⟨H2, eH_, s2, E2⟩ := litE E1 ntn (fq_int _).symm nB
    rw [eH_]
    clear eH_
    refine ⟨_, rfl, ?_⟩
    refine ⟨tn, both, _, _, _, _, rfl, E2.get (by walk_at "mm"), E2.get (by walk_at "mm"), E2.rb (p := tn) (by walk_at "mm"), E2.rb (p := both) (by walk_at "mm"), (by first | decide | omega), trivial, fun nb nnb => ?_⟩
    obtain ⟨H3, eH_, s3, E3⟩ := stepE E2 nnb (RB.mul (E2.rb (p := tn) (by walk_at "mm")) (E2.rb (p := both) (by walk_at "mm")))
    rw [eH_]
    clear eH_
    refine ⟨_, rfl, ?_⟩
    refine ⟨nb, pb, _, _, _, _, rfl, E3.get (by walk_at "mm"), E3.get (by walk_at "mm"), E3.rb (p := nb) (by walk_at "mm"), E3.rb (p := pb) (by walk_at "mm"), (by first | decide | omega), nz, fun x1 nx1 => ?_⟩
    obtain ⟨H4, eH_, s4, E4⟩ := stepE E3 nx1 (RB.div nz (E3.rb (p := nb) (by walk_at "mm")) (E3.rb (p := pb) (by walk_at "mm")))
    rw [eH_]
    clear eH_
    refine ⟨_, rfl, _, _, rfl, rfl, Or.inl ⟨by decide, by decide⟩, _, rfl, _, _, rfl, rfl, ((B.lit (n := 2) (x := 2) (by decide)).mul hn).mulW hn (by decide), ?_⟩
    refine ⟨(by show 2 ≤ sizeLine; decide), fun tnn ntnn => ?_⟩
    obtain ⟨H5, eH_, s5, E5⟩ := litE E4 ntnn (fq_int _).symm nnB
    rw [eH_]
    clear eH_
    refine ⟨_, rfl, ?_⟩
    refine ⟨tnn, both, _, _, _, _, rfl, E5.get (by walk_at "mm"), E5.get (by walk_at "mm"), E5.rb (p := tnn) (by walk_at "mm"), E5.rb (p := both) (by walk_at "mm"), (by first | decide | omega), trivial, fun nnb nnnb => ?_⟩
    obtain ⟨H6, eH_, s6, E6⟩ := stepE E5 nnnb (RB.mul (E5.rb (p := tnn) (by walk_at "mm")) (E5.rb (p := both) (by walk_at "mm")))
    rw [eH_]
    clear eH_
    refine ⟨_, rfl, _, rfl, ?_⟩
    refine ⟨pb, pb, _, _, _, _, rfl, E6.get (by walk_at "mm"), E6.get (by walk_at "mm"), E6.rb (p := pb) (by walk_at "mm"), E6.rb (p := pb) (by walk_at "mm"), (by first | decide | omega), trivial, fun bb nbb => ?_⟩
    obtain ⟨H7, eH_, s7, E7⟩ := stepE E6 nbb (RB.mul (E6.rb (p := pb) (by walk_at "mm")) (E6.rb (p := pb) (by walk_at "mm")))
    rw [eH_]
    clear eH_
    refine ⟨nnb, bb, _, _, _, _, rfl, E7.get (by walk_at "mm"), E7.get (by walk_at "mm"), E7.rb (p := nnb) (by walk_at "mm"), E7.rb (p := bb) (by walk_at "mm"), (by first | decide | omega), (qmul_ne nz nz), fun y1 ny1 => ?_⟩
    obtain ⟨H8, eH_, s8, E8⟩ := stepE E7 ny1 (RB.div (qmul_ne nz nz) (E7.rb (p := nnb) (by walk_at "mm")) (E7.rb (p := bb) (by walk_at "mm")))
    rw [eH_]
    clear eH_
    refine ⟨(by show 2 ≤ sizeLine; decide), fun r nr => ?_⟩
    have s9 := Same.new (H := H8) (p := r) (o := .tup [.ref x1, .ref y1]) nr
    have E9 := E8.same s9
    exact q r _ (s1.trans (s2.trans (s3.trans (s4.trans (s5.trans (s6.trans (s7.trans (s8.trans s9)))))))) ⟨x1, y1, tup_of upd_same, E9.get (p := x1) (by walk_at "mm"), E9.get (p := y1) (by walk_at "mm")⟩
def sp_law_point : PySem.W.Frag → Sp := sp_triangle_point
abbrev s__law_point : Stmt := topS 42
theorem sc__law_point : FnScope ["n", "triangle", "a", "b", "c", "part"] ["n", "triangle"] (defScope s__law_point) := ⟨rfl, rfl, rfl, by decide +kernel, rfl, by decide +kernel, by decide +kernel⟩
theorem k_law_point (T : Tx K mg) (D : Df K mg "_law_point" s__law_point ["n", "triangle"]) (c_law_over : Kl P w K mg base 3 "_law_over" (sp_law_over K)) (c_law_plus : Kl P w K mg base 3 "_law_plus" (sp_law_plus K)) (c_law_by : Kl P w K mg base 3 "_law_by" (sp_law_by K)) : Kl P w K mg base 4 "_law_point" (sp_law_point K) := by
  have nd := sc__law_point.nd
  refine Kl.by_body D sc__law_point (fun vs H Q E h => ?_) (fun f cdv A outer s H vs Q E hr h => ?_)
  · obtain ⟨_, _, _, rfl, _⟩ := h
    rfl
  · obtain ⟨n, p, ⟨c1, c2, c3⟩, rfl, hn, ⟨pa, pb, pc, h0, h1, h2, h3⟩, b1, b2, b3, nz, q⟩ := h
    have hu1 := hu_of hr
    refine ⟨_, (pss_cons (ps_asg (pv 1) (pg_tup rfl (pgs_cons (pg_name (i := 2) nd rfl (by first | exact Or.inl rfl | exact Or.inr rfl)) (pgs_cons (pg_name (i := 3) nd rfl (by first | exact Or.inl rfl | exact Or.inr rfl)) (pgs_cons (pg_name (i := 4) nd rfl (by first | exact Or.inl rfl | exact Or.inr rfl)) pgs_nil)))))
      (pss_cons (ps_set (i := 5) nd rfl (by first | exact Or.inl rfl | exact Or.inr rfl) (pe_k c_law_over  hr (by decide) (by rfl) (pa_cons (pe_k c_law_plus  hr (by decide) (by rfl) (pa_cons (pv 2) (pa_cons (pv 4) pa_nil))) (pa_cons (pv 3) pa_nil))))
      (pss_one (ps_ret (pe_tup (pa_cons (pe_k c_law_by  hr (by decide) (by rfl) (pa_cons (pe_tup (pa_cons (pv 0) (pa_cons pe_int pa_nil))) (pa_cons (pv 5) pa_nil))) (pa_cons (pe_k c_law_over  hr (by decide) (by rfl) (pa_cons (pe_k c_law_by  hr (by decide) (by rfl) (pa_cons (pe_tup (pa_cons (pe_op op_mulW (pe_op op_mul pe_int (pv 0)) (pv 0)) (pa_cons pe_int pa_nil))) (pa_cons (pe_k c_law_plus  hr (by decide) (by rfl) (pa_cons (pv 2) (pa_cons (pv 4) pa_nil))) pa_nil))) (pa_cons (pe_k c_law_by  hr (by decide) (by rfl) (pa_cons (pv 3) (pa_cons (pv 3) pa_nil))) pa_nil))) pa_nil))))))), ?_⟩
    replace h1 : SqT K H pa (fq c1) := h1
    replace h2 : SqT K H pb (fq c2) := h2
    replace h3 : SqT K H pc (fq c3) := h3
    replace b1 : RB 40 c1 := b1
    replace b2 : RB 40 c2 := b2
    replace b3 : RB 40 c3 := b3
    replace nz : c2 ≠ 0 := nz
    have nB : RB 8 ((n : Int) : Rat) := RB.int hn (by decide)
    have nnB : RB 19 ((2 * n * n : Int) : Rat) := RB.int (((B.lit (n := 2) (x := 2) (by decide)).mul hn).mul hn |>.up (by decide)) (by decide)
    refine ⟨_, rfl, p, _, rfl, h0, rfl, _, _, rfl, _, _, rfl, _, _, rfl, rfl, ?_⟩
    first | refine sigN [some (.int (n)), some (.ref p), some (.ref pa), some (.ref pb), some (.ref pc), none] (by rfl) ?_ | refine sig [some (.int (n)), some (.ref p), some (.ref pa), some (.ref pb), some (.ref pc), none] (by rfl) ?_
    have E0 : FrE K H [(pa, c1, 40), (pb, c2, 40), (pc, c3, 40)] := FrE.add (FrE.add (FrE.add FrE.nil h3 b3) h2 b2) h1 b1
    refine ⟨_, rfl, _, rfl, ?_⟩
    refine ⟨pa, pc, _, _, _, _, rfl, E0.get (by walk_at "mm"), E0.get (by walk_at "mm"), E0.rb (p := pa) (by walk_at "mm"), E0.rb (p := pc) (by walk_at "mm"), (by first | decide | omega), trivial, fun both nboth => ?_⟩
    obtain ⟨H1, eH_, s1, E1⟩ := stepE E0 nboth (RB.add (E0.rb (p := pa) (by walk_at "mm")) (E0.rb (p := pc) (by walk_at "mm")))
    rw [eH_]
    clear eH_
    refine ⟨_, rfl, ?_⟩
    refine ⟨both, pb, _, _, _, _, rfl, E1.get (by walk_at "mm"), E1.get (by walk_at "mm"), E1.rb (p := both) (by walk_at "mm"), E1.rb (p := pb) (by walk_at "mm"), (by first | decide | omega), nz, fun part npart => ?_⟩
    obtain ⟨H2, eH_, s2, E2⟩ := stepE E1 npart (RB.div nz (E1.rb (p := both) (by walk_at "mm")) (E1.rb (p := pb) (by walk_at "mm")))
    rw [eH_]
    clear eH_
    first | refine sigN [some (.int (n)), some (.ref p), some (.ref pa), some (.ref pb), some (.ref pc), some (.ref part)] (by rfl) ?_ | refine sig [some (.int (n)), some (.ref p), some (.ref pa), some (.ref pb), some (.ref pc), some (.ref part)] (by rfl) ?_
    refine ⟨_, rfl, ?_⟩
    refine ⟨(by show 2 ≤ sizeLine; decide), fun tn ntn => ?_⟩
    obtain ⟨H3, eH_, s3, E3⟩ := litE E2 ntn (fq_int _).symm nB
    rw [eH_]
    clear eH_
    refine ⟨_, rfl, ?_⟩
    refine ⟨tn, part, _, _, _, _, rfl, E3.get (by walk_at "mm"), E3.get (by walk_at "mm"), E3.rb (p := tn) (by walk_at "mm"), E3.rb (p := part) (by walk_at "mm"), (by first | decide | omega), trivial, fun x1 nx1 => ?_⟩
    obtain ⟨H4, eH_, s4, E4⟩ := stepE E3 nx1 (RB.mul (E3.rb (p := tn) (by walk_at "mm")) (E3.rb (p := part) (by walk_at "mm")))
    rw [eH_]
    clear eH_
    refine ⟨_, rfl, _, _, rfl, rfl, Or.inl ⟨by decide, by decide⟩, _, rfl, _, _, rfl, rfl, ((B.lit (n := 2) (x := 2) (by decide)).mul hn).mulW hn (by decide), ?_⟩
    refine ⟨(by show 2 ≤ sizeLine; decide), fun tnn ntnn => ?_⟩
    obtain ⟨H5, eH_, s5, E5⟩ := litE E4 ntnn (fq_int _).symm nnB
    rw [eH_]
    clear eH_
    refine ⟨_, rfl, _, rfl, ?_⟩
    refine ⟨pa, pc, _, _, _, _, rfl, E5.get (by walk_at "mm"), E5.get (by walk_at "mm"), E5.rb (p := pa) (by walk_at "mm"), E5.rb (p := pc) (by walk_at "mm"), (by first | decide | omega), trivial, fun both2 nboth2 => ?_⟩
    obtain ⟨H51, eH_, s51, E51⟩ := stepE E5 nboth2 (RB.add (E5.rb (p := pa) (by walk_at "mm")) (E5.rb (p := pc) (by walk_at "mm")))
    rw [eH_]
    clear eH_
    refine ⟨tnn, both2, _, _, _, _, rfl, E51.get (by walk_at "mm"), E51.get (by walk_at "mm"), E51.rb (p := tnn) (by walk_at "mm"), E51.rb (p := both2) (by walk_at "mm"), (by first | decide | omega), trivial, fun nnb nnnb => ?_⟩
    obtain ⟨H6, eH_, s6, E6⟩ := stepE E51 nnnb (RB.mul (E51.rb (p := tnn) (by walk_at "mm")) (E51.rb (p := both2) (by walk_at "mm")))
    rw [eH_]
    clear eH_
    refine ⟨_, rfl, _, rfl, ?_⟩
    refine ⟨pb, pb, _, _, _, _, rfl, E6.get (by walk_at "mm"), E6.get (by walk_at "mm"), E6.rb (p := pb) (by walk_at "mm"), E6.rb (p := pb) (by walk_at "mm"), (by first | decide | omega), trivial, fun bb nbb => ?_⟩
    obtain ⟨H7, eH_, s7, E7⟩ := stepE E6 nbb (RB.mul (E6.rb (p := pb) (by walk_at "mm")) (E6.rb (p := pb) (by walk_at "mm")))
    rw [eH_]
    clear eH_
    refine ⟨nnb, bb, _, _, _, _, rfl, E7.get (by walk_at "mm"), E7.get (by walk_at "mm"), E7.rb (p := nnb) (by walk_at "mm"), E7.rb (p := bb) (by walk_at "mm"), (by first | decide | omega), (qmul_ne nz nz), fun y1 ny1 => ?_⟩
    obtain ⟨H8, eH_, s8, E8⟩ := stepE E7 ny1 (RB.div (qmul_ne nz nz) (E7.rb (p := nnb) (by walk_at "mm")) (E7.rb (p := bb) (by walk_at "mm")))
    rw [eH_]
    clear eH_
    refine ⟨(by show 2 ≤ sizeLine; decide), fun r nr => ?_⟩
    have s9 := Same.new (H := H8) (p := r) (o := .tup [.ref x1, .ref y1]) nr
    have E9 := E8.same s9
    exact q r _ (s1.trans (s2.trans (s3.trans (s4.trans (s5.trans (s51.trans (s6.trans (s7.trans (s8.trans s9))))))))) ⟨x1, y1, tup_of upd_same, sq_eq (E9.get (p := x1) (by walk_at "mm")) (by show (n : Rat) * ((c1 + c3) / c2) = (n : Rat) * (c1 + c3) / c2; rw [Rat.div_def, Rat.div_def, Rat.mul_assoc]), E9.get (p := y1) (by walk_at "mm")⟩
def sp_triangle_of (K : PySem.W.Frag) : Sp := fun vs H Q _ => ∃ (n : Int) (p : Addr) (S : Pt), vs = [.int n, .ref p] ∧ B 8 n ∧ PtT K H p S ∧ TB S ∧ ∀ v H', Same H H' → TrO K H' v (told n S) → Q v H'
abbrev s_triangle_of : Stmt := topS 15
theorem sc_triangle_of : FnScope ["n", "point", "x", "y", "xx", "nn", "first", "second", "last"] ["n", "point"] (defScope s_triangle_of) := ⟨rfl, rfl, rfl, by decide +kernel, rfl, by decide +kernel, by decide +kernel⟩
theorem k_triangle_of (T : Tx K mg) (D : Df K mg "triangle_of" s_triangle_of ["n", "point"]) (c_amount : Kl P w K mg base 1 "amount" (sp_amount K)) (c_times : Kl P w K mg base 2 "times" (sp_times K)) (c_over : Kl P w K mg base 2 "over" (sp_over K)) (c_is_below : Kl P w K mg base 1 "is_below" (sp_is_below K)) (c_less : Kl P w K mg base 2 "less" (sp_less K)) (c_plus : Kl P w K mg base 2 "plus" (sp_plus K)) : Kl P w K mg base 3 "triangle_of" (sp_triangle_of K) := by
  have nd := sc_triangle_of.nd
  refine Kl.by_body D sc_triangle_of (fun vs H Q E h => ?_) (fun f cdv A outer s H vs Q E hr h => ?_)
  · obtain ⟨_, _, _, rfl, _⟩ := h
    rfl
  · obtain ⟨n, p, S, rfl, hn, hp, hB, q⟩ := h
    have hu1 := hu_of hr
    refine ⟨_, (pss_cons (ps_if (PW.pt (pw_or (pt_cmpR (op_eqD hr.units) (pv 1) (pe_tup pa_nil) (nomark _)) (pw_or1 (pt_cmpR (op_eqD hr.units) (pe_ix ix_tup (pv 1) pe_int (fun _ _ => rfl)) (pe_tup (pa_cons pe_int (pa_cons pe_int pa_nil))) (nomark _))))) (pss_one (ps_ret pe_non)) pss_nil)
      (pss_cons (ps_asg (pv 1) (pg_tup rfl (pgs_cons (pg_name (i := 2) nd rfl (by first | exact Or.inl rfl | exact Or.inr rfl)) (pgs_cons (pg_name (i := 3) nd rfl (by first | exact Or.inl rfl | exact Or.inr rfl)) pgs_nil))))
      (pss_cons (ps_par (i := 4) (j := 5) (by rfl) nd rfl rfl (by decide) rfl rfl (pa_cons (pe_k c_times  hr (by decide) (by rfl) (pa_cons (pv 2) (pa_cons (pv 2) pa_nil))) (pa_cons (pe_tup (pa_cons (pe_op op_mulW (pv 0) (pv 0)) (pa_cons pe_int pa_nil))) pa_nil)) (by rfl))
      (pss_cons (ps_set (i := 6) nd rfl (by first | exact Or.inl rfl | exact Or.inr rfl) (pe_k c_amount  hr (by decide) (by rfl) (pa_cons (pe_k c_over  hr (by decide) (by rfl) (pa_cons (pe_k c_less  hr (by decide) (by rfl) (pa_cons (pv 4) (pa_cons (pv 5) pa_nil))) (pa_cons (pv 3) pa_nil))) pa_nil)))
      (pss_cons (ps_set (i := 7) nd rfl (by first | exact Or.inl rfl | exact Or.inr rfl) (pe_k c_amount  hr (by decide) (by rfl) (pa_cons (pe_k c_over  hr (by decide) (by rfl) (pa_cons (pe_k c_times  hr (by decide) (by rfl) (pa_cons (pe_tup (pa_cons (pe_op op_mul pe_int (pv 0)) (pa_cons pe_int pa_nil))) (pa_cons (pv 2) pa_nil))) (pa_cons (pv 3) pa_nil))) pa_nil)))
      (pss_cons (ps_set (i := 8) nd rfl (by first | exact Or.inl rfl | exact Or.inr rfl) (pe_k c_amount  hr (by decide) (by rfl) (pa_cons (pe_k c_over  hr (by decide) (by rfl) (pa_cons (pe_k c_plus  hr (by decide) (by rfl) (pa_cons (pv 4) (pa_cons (pv 5) pa_nil))) (pa_cons (pv 3) pa_nil))) pa_nil)))
      (pss_one (ps_ret (pe_ifExp (pt_val (pe_k c_is_below  hr (by decide) (by rfl) (pa_cons (pv 6) (pa_cons (pv 7) pa_nil)))) (pe_tup (pa_cons (pv 6) (pa_cons (pv 7) (pa_cons (pv 8) pa_nil)))) (pe_tup (pa_cons (pv 7) (pa_cons (pv 6) (pa_cons (pv 8) pa_nil))))))))))))), ?_⟩
    have nnB : RB 16 ((n * n : Int) : Rat) := RB.int ((hn.mul hn).up (by decide)) (by decide)
    have n2B : RB 10 ((2 * n : Int) : Rat) := RB.int (((B.lit (n := 2) (x := 2) (by decide)).mul hn).up (by decide)) (by decide)
    refine ⟨_, rfl, (by show 0 ≤ sizeLine; decide), fun e ne => ?_⟩
    have s1 := Same.new (H := H) (p := e) (o := .tup []) ne
    have ge : upd H e (.tup []) e = some (.tup []) := upd_same
    generalize upd H e (.tup []) = H1 at s1 ge ⊢
    cases S with
    | none =>
      refine ⟨dP none, .tuple [], dp_pt (hp.same s1), dp0 (tup_of ge), sh_P none, rfl, _, rfl, iteT ?_⟩
      exact q _ _ s1 rfl
    | some S =>
      obtain ⟨x, y⟩ := S
      obtain ⟨a, b, h1, h2, h3⟩ := hp
      obtain ⟨xB, yB⟩ := hB
      refine ⟨dP (some (x, y)), .tuple [], dp_pt ⟨a, b, Same.tup s1 h1, Same.tup s1 h2, Same.tup s1 h3⟩, dp0 (tup_of ge), sh_P (some (x, y)), rfl, _, rfl, iteF ?_⟩
      refine ⟨_, rfl, p, _, 1, .ref b, rfl, rfl, Same.tup s1 h1, rfl, (by show 2 ≤ sizeLine; decide), fun z nz => ?_⟩
      have s2 := Same.new (H := H1) (p := z) (o := .tup [.int 0, .int 1]) nz
      have gz : upd H1 z (.tup [.int 0, .int 1]) z = some (.tup [.int 0, .int 1]) := upd_same
      generalize upd H1 z (.tup [.int 0, .int 1]) = H2 at s2 gz ⊢
      have s02 := s1.trans s2
      refine ⟨dq y, dq 0, dp_q (Same.tup s02 h3), dp_q (q := 0) (tup_of gz), rfl, rfl, _, rfl, ?_⟩
      rw [eqv_q]
      by_cases y0 : y = 0
      · refine iteY (decide_eq_true y0) ?_
        refine q _ _ s02 ?_
        rw [show told n (some (x, y)) = none from if_pos y0]
        rfl
      refine iteN (by simpa using y0) ?_
      have et : told n (some (x, y)) = _ := if_neg y0
      rw [et] at q
      have h1' := Same.tup s02 h1
      refine ⟨_, rfl, p, _, rfl, h1', rfl, _, _, rfl, _, _, rfl, rfl, ?_⟩
      first | refine sigN [some (.int (n)), some (.ref p), some (.ref a), some (.ref b), none, none, none, none, none] (by rfl) ?_ | refine sig [some (.int (n)), some (.ref p), some (.ref a), some (.ref b), none, none, none, none, none] (by rfl) ?_
      have E0 : FrE K H2 [(a, x, 400), (b, y, 820)] := FrE.add (FrE.add FrE.nil (Same.tup s02 h3) yB) (Same.tup s02 h2) xB
      refine ⟨_, rfl, _, rfl, ?_⟩
      refine ⟨a, a, _, _, _, _, rfl, E0.get (by walk_at "mm"), E0.get (by walk_at "mm"), E0.rb (p := a) (by walk_at "mm"), E0.rb (p := a) (by walk_at "mm"), (by first | decide | omega), trivial, fun xx nxx => ?_⟩
      obtain ⟨H3, eH_, s3, E1⟩ := stepE E0 nxx (RB.mul (E0.rb (p := a) (by walk_at "mm")) (E0.rb (p := a) (by walk_at "mm")))
      rw [eH_]
      clear eH_
      refine ⟨_, rfl, _, rfl, _, _, rfl, rfl, hn.mulW hn (by decide), ?_⟩
      refine ⟨(by show 2 ≤ sizeLine; decide), fun nn nnn => ?_⟩
      obtain ⟨H4, eH_, s4, E2⟩ := litE E1 nnn (fq_int _).symm nnB
      rw [eH_]
      clear eH_
      refine ⟨_, _, rfl, ?_⟩
      first | refine sigN [some (.int (n)), some (.ref p), some (.ref a), some (.ref b), some (.ref xx), some (.ref nn), none, none, none] (by rfl) ?_ | refine sig [some (.int (n)), some (.ref p), some (.ref a), some (.ref b), some (.ref xx), some (.ref nn), none, none, none] (by rfl) ?_
      refine ⟨_, rfl, _, rfl, ?_⟩
      refine ⟨xx, nn, _, _, _, _, rfl, E2.get (by walk_at "mm"), E2.get (by walk_at "mm"), E2.rb (p := xx) (by walk_at "mm"), E2.rb (p := nn) (by walk_at "mm"), (by first | decide | omega), trivial, fun f1 nf1 => ?_⟩
      obtain ⟨H5, eH_, s5, E3⟩ := stepE E2 nf1 (RB.sub (E2.rb (p := xx) (by walk_at "mm")) (E2.rb (p := nn) (by walk_at "mm")))
      rw [eH_]
      clear eH_
      refine ⟨_, rfl, ?_⟩
      refine ⟨f1, b, _, _, _, _, rfl, E3.get (by walk_at "mm"), E3.get (by walk_at "mm"), E3.rb (p := f1) (by walk_at "mm"), E3.rb (p := b) (by walk_at "mm"), (by first | decide | omega), y0, fun f2 nf2 => ?_⟩
      obtain ⟨H6, eH_, s6, E4⟩ := stepE E3 nf2 (RB.div y0 (E3.rb (p := f1) (by walk_at "mm")) (E3.rb (p := b) (by walk_at "mm")))
      rw [eH_]
      clear eH_
      refine ⟨f2, _, rfl, E4.get (p := f2) (by walk_at "mm"), fun f3 nf3 => ?_⟩
      obtain ⟨H7, eH_, s7, E5⟩ := stepE E4 nf3 (qa_RB (E4.rb (p := f2) (by walk_at "mm")))
      rw [eH_]
      clear eH_
      first | refine sigN [some (.int (n)), some (.ref p), some (.ref a), some (.ref b), some (.ref xx), some (.ref nn), some (.ref f3), none, none] (by rfl) ?_ | refine sig [some (.int (n)), some (.ref p), some (.ref a), some (.ref b), some (.ref xx), some (.ref nn), some (.ref f3), none, none] (by rfl) ?_
      refine ⟨_, rfl, _, _, rfl, rfl, Or.inl ⟨by decide, by decide⟩, ?_⟩
      refine ⟨(by show 2 ≤ sizeLine; decide), fun tn ntn => ?_⟩
      obtain ⟨H8, eH_, s8, E6⟩ := litE E5 ntn (fq_int _).symm n2B
      rw [eH_]
      clear eH_
      refine ⟨_, rfl, ?_⟩
      refine ⟨tn, a, _, _, _, _, rfl, E6.get (by walk_at "mm"), E6.get (by walk_at "mm"), E6.rb (p := tn) (by walk_at "mm"), E6.rb (p := a) (by walk_at "mm"), (by first | decide | omega), trivial, fun g1 ng1 => ?_⟩
      obtain ⟨H9, eH_, s9, E7⟩ := stepE E6 ng1 (RB.mul (E6.rb (p := tn) (by walk_at "mm")) (E6.rb (p := a) (by walk_at "mm")))
      rw [eH_]
      clear eH_
      refine ⟨_, rfl, ?_⟩
      refine ⟨g1, b, _, _, _, _, rfl, E7.get (by walk_at "mm"), E7.get (by walk_at "mm"), E7.rb (p := g1) (by walk_at "mm"), E7.rb (p := b) (by walk_at "mm"), (by first | decide | omega), y0, fun g2 ng2 => ?_⟩
      obtain ⟨Ha, eH_, sa, E8⟩ := stepE E7 ng2 (RB.div y0 (E7.rb (p := g1) (by walk_at "mm")) (E7.rb (p := b) (by walk_at "mm")))
      rw [eH_]
      clear eH_
      refine ⟨g2, _, rfl, E8.get (p := g2) (by walk_at "mm"), fun g3 ng3 => ?_⟩
      obtain ⟨Hb, eH_, sb, E9⟩ := stepE E8 ng3 (qa_RB (E8.rb (p := g2) (by walk_at "mm")))
      rw [eH_]
      clear eH_
      first | refine sigN [some (.int (n)), some (.ref p), some (.ref a), some (.ref b), some (.ref xx), some (.ref nn), some (.ref f3), some (.ref g3), none] (by rfl) ?_ | refine sig [some (.int (n)), some (.ref p), some (.ref a), some (.ref b), some (.ref xx), some (.ref nn), some (.ref f3), some (.ref g3), none] (by rfl) ?_
      refine ⟨_, rfl, _, rfl, ?_⟩
      refine ⟨xx, nn, _, _, _, _, rfl, E9.get (by walk_at "mm"), E9.get (by walk_at "mm"), E9.rb (p := xx) (by walk_at "mm"), E9.rb (p := nn) (by walk_at "mm"), (by first | decide | omega), trivial, fun k1 nk1 => ?_⟩
      obtain ⟨Hc, eH_, sc, E10⟩ := stepE E9 nk1 (RB.add (E9.rb (p := xx) (by walk_at "mm")) (E9.rb (p := nn) (by walk_at "mm")))
      rw [eH_]
      clear eH_
      refine ⟨_, rfl, ?_⟩
      refine ⟨k1, b, _, _, _, _, rfl, E10.get (by walk_at "mm"), E10.get (by walk_at "mm"), E10.rb (p := k1) (by walk_at "mm"), E10.rb (p := b) (by walk_at "mm"), (by first | decide | omega), y0, fun k2 nk2 => ?_⟩
      obtain ⟨Hd, eH_, sd, E11⟩ := stepE E10 nk2 (RB.div y0 (E10.rb (p := k1) (by walk_at "mm")) (E10.rb (p := b) (by walk_at "mm")))
      rw [eH_]
      clear eH_
      refine ⟨k2, _, rfl, E11.get (p := k2) (by walk_at "mm"), fun k3 nk3 => ?_⟩
      obtain ⟨He, eH_, se, E12⟩ := stepE E11 nk3 (qa_RB (E11.rb (p := k2) (by walk_at "mm")))
      rw [eH_]
      clear eH_
      first | refine sigN [some (.int (n)), some (.ref p), some (.ref a), some (.ref b), some (.ref xx), some (.ref nn), some (.ref f3), some (.ref g3), some (.ref k3)] (by rfl) ?_ | refine sig [some (.int (n)), some (.ref p), some (.ref a), some (.ref b), some (.ref xx), some (.ref nn), some (.ref f3), some (.ref g3), some (.ref k3)] (by rfl) ?_
      have sA := s02.trans (s3.trans (s4.trans (s5.trans (s6.trans (s7.trans (s8.trans (s9.trans (sa.trans (sb.trans (sc.trans (sd.trans se)))))))))))
      have gf := E12.get (p := f3) (by walk_at "mm")
      have gg := E12.get (p := g3) (by walk_at "mm")
      have gk := E12.get (p := k3) (by walk_at "mm")
      refine ⟨_, rfl, _, rfl, f3, g3, _, _, rfl, gf, gg, (E12.rb (p := f3) (by walk_at "mm")).up (by decide), (E12.rb (p := g3) (by walk_at "mm")).up (by decide), ?_⟩
      refine ⟨_, rfl, ?_⟩
      by_cases hb : bel (qa ((x * x - ((n * n : Int) : Rat)) / y)) (qa (((2 * n : Int) : Rat) * x / y))
      · refine iteY (decide_eq_true hb) ?_
        rw [if_pos hb] at q
        refine ⟨_, rfl, _, rfl, _, rfl, (by show 3 ≤ sizeLine; decide), fun r nr => ?_⟩
        have sr := Same.new (H := He) (p := r) (o := .tup [.ref f3, .ref g3, .ref k3]) nr
        exact q _ _ (sA.trans sr) ⟨r, rfl, f3, g3, k3, tup_of upd_same, Same.tup sr gf, Same.tup sr gg, Same.tup sr gk⟩
      · refine iteN (by simpa using hb) ?_
        rw [if_neg hb] at q
        refine ⟨_, rfl, _, rfl, _, rfl, (by show 3 ≤ sizeLine; decide), fun r nr => ?_⟩
        have sr := Same.new (H := He) (p := r) (o := .tup [.ref g3, .ref f3, .ref k3]) nr
        exact q _ _ (sA.trans sr) ⟨r, rfl, g3, f3, k3, tup_of upd_same, Same.tup sr gg, Same.tup sr gf, Same.tup sr gk⟩
theorem told_turn {n : Int} {x y : Rat} (y0 : y ≠ 0) : told n (some (x, y)) = if bel (qa (((2 * n : Int) : Rat) * x / y)) (qa ((x * x - ((n * n : Int) : Rat)) / y)) then some (qa (((2 * n : Int) : Rat) * x / y), qa ((x * x - ((n * n : Int) : Rat)) / y), qa ((x * x + ((n * n : Int) : Rat)) / y)) else some (qa ((x * x - ((n * n : Int) : Rat)) / y), qa (((2 * n : Int) : Rat) * x / y), qa ((x * x + ((n * n : Int) : Rat)) / y)) := by
  have e : told n (some (x, y)) = _ := if_neg y0
  rw [e]
  generalize qa ((x * x - ((n * n : Int) : Rat)) / y) = a
  generalize qa (((2 * n : Int) : Rat) * x / y) = b
  by_cases h : bel a b
  · have h2 : ¬ bel b a := by
      unfold bel at *
      omega
    rw [if_pos h, if_neg h2]
  · rw [if_neg h]
    by_cases h2 : bel b a
    · rw [if_pos h2]
    · rw [if_neg h2, bel_eq h h2]
def sp_law_triple : PySem.W.Frag → Sp := sp_triangle_of
abbrev s__law_triple : Stmt := topS 43
theorem sc__law_triple : FnScope ["n", "point", "x", "y", "square", "whole", "a", "c", "b"] ["n", "point"] (defScope s__law_triple) := ⟨rfl, rfl, rfl, by decide +kernel, rfl, by decide +kernel, by decide +kernel⟩
theorem k_law_triple (T : Tx K mg) (D : Df K mg "_law_triple" s__law_triple ["n", "point"]) (c_law_by : Kl P w K mg base 3 "_law_by" (sp_law_by K)) (c_law_over : Kl P w K mg base 3 "_law_over" (sp_law_over K)) (c_law_amount : Kl P w K mg base 1 "_law_amount" (sp_law_amount K)) (c_law_is_below : Kl P w K mg base 1 "_law_is_below" (sp_law_is_below K)) (c_law_less : Kl P w K mg base 3 "_law_less" (sp_law_less K)) (c_law_plus : Kl P w K mg base 3 "_law_plus" (sp_law_plus K)) : Kl P w K mg base 4 "_law_triple" (sp_law_triple K) := by
  have nd := sc__law_triple.nd
  refine Kl.by_body D sc__law_triple (fun vs H Q E h => ?_) (fun f cdv A outer s H vs Q E hr h => ?_)
  · obtain ⟨_, _, _, rfl, _⟩ := h
    rfl
  · obtain ⟨n, p, S, rfl, hn, hp, hB, q⟩ := h
    have hu1 := hu_of hr
    refine ⟨_, (pss_cons (ps_if (PW.pt (pw_or (pt_cmpR (op_eqD hr.units) (pv 1) (pe_tup pa_nil) (nomark _)) (pw_or1 (pt_cmpR op_eq (pe_ix ix_tup (pe_ix ix_tup (pv 1) pe_int (fun _ _ => rfl)) pe_int (fun _ _ => rfl)) pe_int (nomark _))))) (pss_one (ps_ret pe_non)) pss_nil)
      (pss_cons (ps_asg (pv 1) (pg_tup rfl (pgs_cons (pg_name (i := 2) nd rfl (by first | exact Or.inl rfl | exact Or.inr rfl)) (pgs_cons (pg_name (i := 3) nd rfl (by first | exact Or.inl rfl | exact Or.inr rfl)) pgs_nil))))
      (pss_cons (ps_par (i := 4) (j := 5) (by rfl) nd rfl rfl (by decide) rfl rfl (pa_cons (pe_k c_law_by  hr (by decide) (by rfl) (pa_cons (pv 2) (pa_cons (pv 2) pa_nil))) (pa_cons (pe_tup (pa_cons (pe_op op_mulW (pv 0) (pv 0)) (pa_cons pe_int pa_nil))) pa_nil)) (by rfl))
      (pss_cons (ps_par (i := 6) (j := 7) (by rfl) nd rfl rfl (by decide) rfl rfl (pa_cons (pe_k c_law_over  hr (by decide) (by rfl) (pa_cons (pe_k c_law_less  hr (by decide) (by rfl) (pa_cons (pv 4) (pa_cons (pv 5) pa_nil))) (pa_cons (pv 3) pa_nil))) (pa_cons (pe_k c_law_over  hr (by decide) (by rfl) (pa_cons (pe_k c_law_plus  hr (by decide) (by rfl) (pa_cons (pv 4) (pa_cons (pv 5) pa_nil))) (pa_cons (pv 3) pa_nil))) pa_nil)) (by rfl))
      (pss_cons (ps_par3 (i := 6) (j := 8) (l := 7) (by rfl) nd rfl rfl rfl (by decide) (by decide) (by decide) rfl rfl rfl (pa_cons (pe_k c_law_amount  hr (by decide) (by rfl) (pa_cons (pv 6) pa_nil)) (pa_cons (pe_k c_law_amount  hr (by decide) (by rfl) (pa_cons (pe_k c_law_over  hr (by decide) (by rfl) (pa_cons (pe_k c_law_by  hr (by decide) (by rfl) (pa_cons (pe_tup (pa_cons (pe_op op_mul pe_int (pv 0)) (pa_cons pe_int pa_nil))) (pa_cons (pv 2) pa_nil))) (pa_cons (pv 3) pa_nil))) pa_nil)) (pa_cons (pe_k c_law_amount  hr (by decide) (by rfl) (pa_cons (pv 7) pa_nil)) pa_nil))) (by rfl))
      (pss_one (ps_ret (pe_ifExp (pt_val (pe_k c_law_is_below  hr (by decide) (by rfl) (pa_cons (pv 8) (pa_cons (pv 6) pa_nil)))) (pe_tup (pa_cons (pv 8) (pa_cons (pv 6) (pa_cons (pv 7) pa_nil)))) (pe_tup (pa_cons (pv 6) (pa_cons (pv 8) (pa_cons (pv 7) pa_nil)))))))))))), ?_⟩
    have nnB : RB 16 ((n * n : Int) : Rat) := RB.int ((hn.mul hn).up (by decide)) (by decide)
    have n2B : RB 10 ((2 * n : Int) : Rat) := RB.int (((B.lit (n := 2) (x := 2) (by decide)).mul hn).up (by decide)) (by decide)
    refine ⟨_, rfl, (by show 0 ≤ sizeLine; decide), fun e ne => ?_⟩
    have s1 := Same.new (H := H) (p := e) (o := .tup []) ne
    have ge : upd H e (.tup []) e = some (.tup []) := upd_same
    generalize upd H e (.tup []) = H1 at s1 ge ⊢
    cases S with
    | none =>
      refine ⟨dP none, .tuple [], dp_pt (hp.same s1), dp0 (tup_of ge), sh_P none, rfl, _, rfl, iteT ?_⟩
      exact q _ _ s1 rfl
    | some S =>
      obtain ⟨x, y⟩ := S
      obtain ⟨a, b, h1, h2, h3⟩ := hp
      obtain ⟨xB, yB⟩ := hB
      refine ⟨dP (some (x, y)), .tuple [], dp_pt ⟨a, b, Same.tup s1 h1, Same.tup s1 h2, Same.tup s1 h3⟩, dp0 (tup_of ge), sh_P (some (x, y)), rfl, _, rfl, iteF ?_⟩
      have h1' := Same.tup s1 h1
      refine ⟨_, rfl, p, _, 1, .ref b, rfl, rfl, h1', rfl, b, _, 0, .int y.num, rfl, rfl, Same.tup s1 h3, rfl, rfl, _, rfl, ?_⟩
      rw [dec_int]
      by_cases y0 : y = 0
      · refine iteY (by rw [y0]; rfl) ?_
        refine q _ _ s1 ?_
        rw [show told n (some (x, y)) = none from if_pos y0]
        rfl
      refine iteN (by simpa using num_ne y0) ?_
      rw [told_turn y0] at q
      refine ⟨_, rfl, p, _, rfl, h1', rfl, _, _, rfl, _, _, rfl, rfl, ?_⟩
      first | refine sigN [some (.int (n)), some (.ref p), some (.ref a), some (.ref b), none, none, none, none, none] (by rfl) ?_ | refine sig [some (.int (n)), some (.ref p), some (.ref a), some (.ref b), none, none, none, none, none] (by rfl) ?_
      have E0 : FrE K H1 [(a, x, 400), (b, y, 820)] := FrE.add (FrE.add FrE.nil (Same.tup s1 h3) yB) (Same.tup s1 h2) xB
      refine ⟨_, rfl, _, rfl, ?_⟩
      refine ⟨a, a, _, _, _, _, rfl, E0.get (by walk_at "mm"), E0.get (by walk_at "mm"), E0.rb (p := a) (by walk_at "mm"), E0.rb (p := a) (by walk_at "mm"), (by first | decide | omega), trivial, fun xx nxx => ?_⟩
      obtain ⟨H3, eH_, s3, E1⟩ := stepE E0 nxx (RB.mul (E0.rb (p := a) (by walk_at "mm")) (E0.rb (p := a) (by walk_at "mm")))
      rw [eH_]
      clear eH_
      refine ⟨_, rfl, _, rfl, _, _, rfl, rfl, hn.mulW hn (by decide), ?_⟩
      refine ⟨(by show 2 ≤ sizeLine; decide), fun nn nnn => ?_⟩
      obtain ⟨H4, eH_, s4, E2⟩ := litE E1 nnn (fq_int _).symm nnB
      rw [eH_]
      clear eH_
      refine ⟨_, _, rfl, ?_⟩
      first | refine sigN [some (.int (n)), some (.ref p), some (.ref a), some (.ref b), some (.ref xx), some (.ref nn), none, none, none] (by rfl) ?_ | refine sig [some (.int (n)), some (.ref p), some (.ref a), some (.ref b), some (.ref xx), some (.ref nn), none, none, none] (by rfl) ?_
      refine ⟨_, rfl, _, rfl, ?_⟩
      refine ⟨xx, nn, _, _, _, _, rfl, E2.get (by walk_at "mm"), E2.get (by walk_at "mm"), E2.rb (p := xx) (by walk_at "mm"), E2.rb (p := nn) (by walk_at "mm"), (by first | decide | omega), trivial, fun f1 nf1 => ?_⟩
      obtain ⟨H5, eH_, s5, E3⟩ := stepE E2 nf1 (RB.sub (E2.rb (p := xx) (by walk_at "mm")) (E2.rb (p := nn) (by walk_at "mm")))
      rw [eH_]
      clear eH_
      refine ⟨_, rfl, ?_⟩
      refine ⟨f1, b, _, _, _, _, rfl, E3.get (by walk_at "mm"), E3.get (by walk_at "mm"), E3.rb (p := f1) (by walk_at "mm"), E3.rb (p := b) (by walk_at "mm"), (by first | decide | omega), y0, fun f2 nf2 => ?_⟩
      obtain ⟨H6, eH_, s6, E4⟩ := stepE E3 nf2 (RB.div y0 (E3.rb (p := f1) (by walk_at "mm")) (E3.rb (p := b) (by walk_at "mm")))
      rw [eH_]
      clear eH_
      refine ⟨_, rfl, _, rfl, ?_⟩
      refine ⟨xx, nn, _, _, _, _, rfl, E4.get (by walk_at "mm"), E4.get (by walk_at "mm"), E4.rb (p := xx) (by walk_at "mm"), E4.rb (p := nn) (by walk_at "mm"), (by first | decide | omega), trivial, fun k1 nk1 => ?_⟩
      obtain ⟨H7, eH_, s7, E5⟩ := stepE E4 nk1 (RB.add (E4.rb (p := xx) (by walk_at "mm")) (E4.rb (p := nn) (by walk_at "mm")))
      rw [eH_]
      clear eH_
      refine ⟨_, rfl, ?_⟩
      refine ⟨k1, b, _, _, _, _, rfl, E5.get (by walk_at "mm"), E5.get (by walk_at "mm"), E5.rb (p := k1) (by walk_at "mm"), E5.rb (p := b) (by walk_at "mm"), (by first | decide | omega), y0, fun k2 nk2 => ?_⟩
      obtain ⟨H8, eH_, s8, E6⟩ := stepE E5 nk2 (RB.div y0 (E5.rb (p := k1) (by walk_at "mm")) (E5.rb (p := b) (by walk_at "mm")))
      rw [eH_]
      clear eH_
      refine ⟨_, _, rfl, ?_⟩
      first | refine sigN [some (.int (n)), some (.ref p), some (.ref a), some (.ref b), some (.ref xx), some (.ref nn), some (.ref f2), some (.ref k2), none] (by rfl) ?_ | refine sig [some (.int (n)), some (.ref p), some (.ref a), some (.ref b), some (.ref xx), some (.ref nn), some (.ref f2), some (.ref k2), none] (by rfl) ?_
      refine ⟨_, rfl, f2, _, rfl, E6.get (p := f2) (by walk_at "mm"), fun f3 nf3 => ?_⟩
      obtain ⟨H9, eH_, s9, E7⟩ := stepE E6 nf3 (qa_RB (E6.rb (p := f2) (by walk_at "mm")))
      rw [eH_]
      clear eH_
      refine ⟨_, rfl, _, _, rfl, rfl, Or.inl ⟨by decide, by decide⟩, ?_⟩
      refine ⟨(by show 2 ≤ sizeLine; decide), fun tn ntn => ?_⟩
      obtain ⟨Ha, eH_, sa, E8⟩ := litE E7 ntn (fq_int _).symm n2B
      rw [eH_]
      clear eH_
      refine ⟨_, rfl, ?_⟩
      refine ⟨tn, a, _, _, _, _, rfl, E8.get (by walk_at "mm"), E8.get (by walk_at "mm"), E8.rb (p := tn) (by walk_at "mm"), E8.rb (p := a) (by walk_at "mm"), (by first | decide | omega), trivial, fun g1 ng1 => ?_⟩
      obtain ⟨Hb, eH_, sb, E9⟩ := stepE E8 ng1 (RB.mul (E8.rb (p := tn) (by walk_at "mm")) (E8.rb (p := a) (by walk_at "mm")))
      rw [eH_]
      clear eH_
      refine ⟨_, rfl, ?_⟩
      refine ⟨g1, b, _, _, _, _, rfl, E9.get (by walk_at "mm"), E9.get (by walk_at "mm"), E9.rb (p := g1) (by walk_at "mm"), E9.rb (p := b) (by walk_at "mm"), (by first | decide | omega), y0, fun g2 ng2 => ?_⟩
      obtain ⟨Hc, eH_, sc, E10⟩ := stepE E9 ng2 (RB.div y0 (E9.rb (p := g1) (by walk_at "mm")) (E9.rb (p := b) (by walk_at "mm")))
      rw [eH_]
      clear eH_
      refine ⟨g2, _, rfl, E10.get (p := g2) (by walk_at "mm"), fun g3 ng3 => ?_⟩
      obtain ⟨Hd, eH_, sd, E11⟩ := stepE E10 ng3 (qa_RB (E10.rb (p := g2) (by walk_at "mm")))
      rw [eH_]
      clear eH_
      refine ⟨_, rfl, k2, _, rfl, E11.get (p := k2) (by walk_at "mm"), fun k3 nk3 => ?_⟩
      obtain ⟨He, eH_, se, E12⟩ := stepE E11 nk3 (qa_RB (E11.rb (p := k2) (by walk_at "mm")))
      rw [eH_]
      clear eH_
      refine ⟨_, _, _, rfl, ?_⟩
      first | refine sigN [some (.int (n)), some (.ref p), some (.ref a), some (.ref b), some (.ref xx), some (.ref nn), some (.ref f3), some (.ref k3), some (.ref g3)] (by rfl) ?_ | refine sig [some (.int (n)), some (.ref p), some (.ref a), some (.ref b), some (.ref xx), some (.ref nn), some (.ref f3), some (.ref k3), some (.ref g3)] (by rfl) ?_
      have sA := s1.trans (s3.trans (s4.trans (s5.trans (s6.trans (s7.trans (s8.trans (s9.trans (sa.trans (sb.trans (sc.trans (sd.trans se)))))))))))
      have gf := E12.get (p := f3) (by walk_at "mm")
      have gg := E12.get (p := g3) (by walk_at "mm")
      have gk := E12.get (p := k3) (by walk_at "mm")
      refine ⟨_, rfl, _, rfl, g3, f3, _, _, rfl, gg, gf, (E12.rb (p := g3) (by walk_at "mm")).up (by decide), (E12.rb (p := f3) (by walk_at "mm")).up (by decide), ?_⟩
      refine ⟨_, rfl, ?_⟩
      by_cases hb : bel (qa (((2 * n : Int) : Rat) * x / y)) (qa ((x * x - ((n * n : Int) : Rat)) / y))
      · refine iteY (decide_eq_true hb) ?_
        rw [if_pos hb] at q
        refine ⟨_, rfl, _, rfl, _, rfl, (by show 3 ≤ sizeLine; decide), fun r nr => ?_⟩
        have sr := Same.new (H := He) (p := r) (o := .tup [.ref g3, .ref f3, .ref k3]) nr
        exact q _ _ (sA.trans sr) ⟨r, rfl, g3, f3, k3, tup_of upd_same, Same.tup sr gg, Same.tup sr gf, Same.tup sr gk⟩
      · refine iteN (by simpa using hb) ?_
        rw [if_neg hb] at q
        refine ⟨_, rfl, _, rfl, _, rfl, (by show 3 ≤ sizeLine; decide), fun r nr => ?_⟩
        have sr := Same.new (H := He) (p := r) (o := .tup [.ref f3, .ref g3, .ref k3]) nr
        exact q _ _ (sA.trans sr) ⟨r, rfl, f3, g3, k3, tup_of upd_same, Same.tup sr gf, Same.tup sr gg, Same.tup sr gk⟩
end
end K52
set_option Elab.async false
set_option linter.all false
set_option maxRecDepth 100000
set_option maxHeartbeats 4000000
namespace K52
open PySem PySem.Spec PyProof.Rows L2 Gd QM EcM EcP
/-! ### triangles: plain -/
/-- (a, b, c) is a right triangle of n, its sides of any signs -/
structure Tri (n : Int) (c : C3) : Prop where
  n0 : 0 < n
  s : c.1 * c.1 + c.2.1 * c.2.1 = c.2.2 * c.2.2
  p : c.1 * c.2.1 = ((2 * n : Int) : Rat)
theorem n_ne {n : Int} (h : 0 < n) : (n : Rat) ≠ 0 := fun z => by
  have : n = 0 := by exact_mod_cast z
  omega
theorem two_n (n : Int) : ((2 * n : Int) : Rat) = 2 * (n : Rat) := by
  push_cast
  rfl
theorem Tri.b0 {n : Int} {c : C3} (h : Tri n c) : c.2.1 ≠ 0 := fun z => by
  have h1 := h.p
  rw [z, Rat.mul_zero, two_n] at h1
  have := n_ne h.n0
  grind
theorem Tri.a0 {n : Int} {c : C3} (h : Tri n c) : c.1 ≠ 0 := fun z => by
  have h1 := h.p
  rw [z, Rat.zero_mul, two_n] at h1
  have := n_ne h.n0
  grind
theorem Tri.ac {n : Int} {c : C3} (h : Tri n c) : c.1 + c.2.2 ≠ 0 := fun z => by
  have h1 := h.s
  have h2 := h.b0
  have e : c.2.2 = -c.1 := by grind
  rw [e] at h1
  have h3 : c.2.1 * c.2.1 = 0 := by grind
  rcases Rat.mul_eq_zero.mp h3 with z | z <;> exact h2 z
/-- the curve of n -/
def en (n : Int) : Ec := ⟨0, -n * n, 0⟩
theorem en_f (n : Int) (x : Rat) : (en n).f x = x * x * x - (n : Rat) * n * x := by
  unfold Ec.f en
  push_cast
  grind
theorem div_is {a b q : Rat} (h : b ≠ 0) (e : q = a / b) : q * b = a := by
  rw [e, Rat.div_mul_cancel h]
theorem is_div {a b q : Rat} (h : b ≠ 0) (e : q * b = a) : a / b = q := by
  rw [← e, Rat.mul_div_cancel h]
theorem tpt_x {n : Int} {c : C3} (h : Tri n c) : (tpt n c).1 * c.2.1 = (n : Rat) * (c.1 + c.2.2) := div_is h.b0 rfl
theorem tpt_y {n : Int} {c : C3} (h : Tri n c) : (tpt n c).2 * (c.2.1 * c.2.1) = 2 * (n : Rat) * n * (c.1 + c.2.2) := by
  have := div_is (qmul_ne h.b0 h.b0) (show (tpt n c).2 = ((2 * n * n : Int) : Rat) * (c.1 + c.2.2) / (c.2.1 * c.2.1) from rfl)
  rw [this]
  push_cast
  rfl
theorem tpt_y0 {n : Int} {c : C3} (h : Tri n c) : (tpt n c).2 ≠ 0 := fun z => by
  have h1 := tpt_y h
  have h2 := h.ac
  have h3 := n_ne h.n0
  rw [z, Rat.zero_mul] at h1
  have h4 : (n : Rat) * ((n : Rat) * (c.1 + c.2.2)) = 0 := by grind
  rcases Rat.mul_eq_zero.mp h4 with z | z
  · exact h3 z
  · rcases Rat.mul_eq_zero.mp z with z | z
    · exact h3 z
    · exact h2 z
theorem cancel {a b k : Rat} (h : k ≠ 0) (e : a * k = b * k) : a = b := by
  have : (a - b) * k = 0 := by grind
  rcases Rat.mul_eq_zero.mp this with z | z
  · grind
  · exact absurd z h
theorem tpt_on {n : Int} {c : C3} (h : Tri n c) : On (en n) (some (tpt n c)) := by
  show (tpt n c).2 * (tpt n c).2 = (en n).f (tpt n c).1
  rw [en_f]
  have e1 := tpt_x h
  have e2 := tpt_y h
  have hb := h.b0
  have hs := h.s
  have hp := h.p
  rw [two_n] at hp
  obtain ⟨a, b, d⟩ := c
  obtain ⟨x, hx⟩ : ∃ x, (tpt n (a, b, d)).1 = x := ⟨_, rfl⟩
  obtain ⟨y, hy⟩ : ∃ x, (tpt n (a, b, d)).2 = x := ⟨_, rfl⟩
  rw [hx] at e1 ⊢
  rw [hy] at e2 ⊢
  replace e1 : x * b = (n : Rat) * (a + d) := e1
  replace e2 : y * (b * b) = 2 * (n : Rat) * n * (a + d) := e2
  replace hb : b ≠ 0 := hb
  replace hs : a * a + b * b = d * d := hs
  replace hp : a * b = 2 * (n : Rat) := hp
  generalize (n : Rat) = n at *
  have hb4 : b * b * (b * b) ≠ 0 := qmul_ne (qmul_ne hb hb) (qmul_ne hb hb)
  apply cancel hb4
  have l : y * y * (b * b * (b * b)) = (2 * n * n * (a + d)) * (2 * n * n * (a + d)) := by grind
  have r : (x * x * x - n * n * x) * (b * b * (b * b)) = ((n * (a + d)) * (n * (a + d)) * (n * (a + d)) - n * n * (n * (a + d)) * (b * b)) * b := by
    rw [← e1]
    grind
  rw [l, r]
  have k : (a + d) * (a + d) - b * b = 2 * a * (a + d) := by grind
  have k2 : ((n * (a + d)) * (n * (a + d)) * (n * (a + d)) - n * n * (n * (a + d)) * (b * b)) * b = n * n * n * (a + d) * ((a + d) * (a + d) - b * b) * b := by grind
  rw [k2, k]
  have k3 : n * n * n * (a + d) * (2 * a * (a + d)) * b = n * n * n * (a + d) * (a + d) * 2 * (a * b) := by grind
  rw [k3, hp]
  grind
/-- the sides are found again -/
theorem tpt_back {n : Int} {c : C3} (h : Tri n c) : ((tpt n c).1 * (tpt n c).1 - ((n * n : Int) : Rat)) / (tpt n c).2 = c.1 ∧ ((2 * n : Int) : Rat) * (tpt n c).1 / (tpt n c).2 = c.2.1 ∧ ((tpt n c).1 * (tpt n c).1 + ((n * n : Int) : Rat)) / (tpt n c).2 = c.2.2 := by
  have e1 := tpt_x h
  have e2 := tpt_y h
  have hb := h.b0
  have hs := h.s
  have y0 := tpt_y0 h
  have enn : ((n * n : Int) : Rat) = (n : Rat) * n := by
    push_cast
    rfl
  rw [two_n, enn]
  obtain ⟨a, b, d⟩ := c
  obtain ⟨x, hx⟩ : ∃ x, (tpt n (a, b, d)).1 = x := ⟨_, rfl⟩
  obtain ⟨y, hy⟩ : ∃ x, (tpt n (a, b, d)).2 = x := ⟨_, rfl⟩
  rw [hx] at e1 ⊢
  rw [hy] at e2 y0 ⊢
  replace e1 : x * b = (n : Rat) * (a + d) := e1
  replace e2 : y * (b * b) = 2 * (n : Rat) * n * (a + d) := e2
  replace hb : b ≠ 0 := hb
  replace hs : a * a + b * b = d * d := hs
  generalize (n : Rat) = n at *
  have hbb : b * b ≠ 0 := qmul_ne hb hb
  refine ⟨is_div y0 (cancel hbb ?_), is_div y0 (cancel hbb ?_), is_div y0 (cancel hbb ?_)⟩
  · show a * y * (b * b) = (x * x - n * n) * (b * b)
    have l : (x * x - n * n) * (b * b) = (x * b) * (x * b) - n * n * (b * b) := by grind
    rw [l, e1]
    have l2 : a * y * (b * b) = a * (y * (b * b)) := by grind
    rw [l2, e2]
    grind
  · show b * y * (b * b) = 2 * n * x * (b * b)
    have l2 : b * y * (b * b) = b * (y * (b * b)) := by grind
    have l : 2 * n * x * (b * b) = 2 * n * (x * b) * b := by grind
    rw [l, l2, e1, e2]
    grind
  · show d * y * (b * b) = (x * x + n * n) * (b * b)
    have l : (x * x + n * n) * (b * b) = (x * b) * (x * b) + n * n * (b * b) := by grind
    rw [l, e1]
    have l2 : d * y * (b * b) = d * (y * (b * b)) := by grind
    rw [l2, e2]
    grind
def srt (c : C3) : C3 := if bel (qa c.1) (qa c.2.1) then (qa c.1, qa c.2.1, qa c.2.2) else (qa c.2.1, qa c.1, qa c.2.2)
theorem told_tpt {n : Int} {c : C3} (h : Tri n c) : told n (some (tpt n c)) = some (srt c) := by
  obtain ⟨e1, e2, e3⟩ := tpt_back h
  have e : told n (some (tpt n c)) = _ := if_neg (tpt_y0 h)
  rw [e]
  show (if bel (qa (((tpt n c).1 * (tpt n c).1 - ((n * n : Int) : Rat)) / (tpt n c).2)) (qa (((2 * n : Int) : Rat) * (tpt n c).1 / (tpt n c).2)) then some (qa (((tpt n c).1 * (tpt n c).1 - ((n * n : Int) : Rat)) / (tpt n c).2), qa (((2 * n : Int) : Rat) * (tpt n c).1 / (tpt n c).2), qa (((tpt n c).1 * (tpt n c).1 + ((n * n : Int) : Rat)) / (tpt n c).2)) else some (qa (((2 * n : Int) : Rat) * (tpt n c).1 / (tpt n c).2), qa (((tpt n c).1 * (tpt n c).1 - ((n * n : Int) : Rat)) / (tpt n c).2), qa (((tpt n c).1 * (tpt n c).1 + ((n * n : Int) : Rat)) / (tpt n c).2))) = some (srt c)
  rw [e1, e2, e3]
  unfold srt
  split <;> rfl
end K52
set_option Elab.async false
set_option linter.all false
set_option maxRecDepth 100000
set_option maxHeartbeats 4000000
namespace K52
open PySem PySem.Spec PyProof.Rows L2 Gd QM EcM EcP
/-! ### amounts -/
theorem qa_cases (q : Rat) : qa q = q ∨ qa q = -q := by
  unfold qa
  split
  · exact .inl rfl
  · exact .inr rfl
theorem qa_num (q : Rat) : 0 ≤ (qa q).num := by
  unfold qa
  split
  · rename_i h
    exact h
  · rename_i h
    rw [Rat.neg_num]
    omega
theorem qa_sq (q : Rat) : qa q * qa q = q * q := by
  rcases qa_cases q with h | h <;> rw [h] <;> grind
theorem qa_ne {q : Rat} (h : q ≠ 0) : qa q ≠ 0 := fun z => by
  have := qa_sq q
  rw [z] at this
  have h2 : q * q = 0 := by grind
  rcases Rat.mul_eq_zero.mp h2 with z | z <;> exact h z
theorem num_pos_of {q : Rat} (h : 0 ≤ q.num) (k : q ≠ 0) : 0 < q.num := by
  have := num_ne k
  omega
theorem nn_of {q : Rat} (h : 0 ≤ q.num) : 0 ≤ q := Rat.num_nonneg.mp h
theorem sq_nn {a b : Rat} (ha : 0 ≤ a) (hb : 0 ≤ b) (h : a * a = b * b) : a = b := by
  have h1 : SqQ (b * b) (some a) := ⟨ha, h⟩
  have h2 : SqQ (b * b) (some b) := ⟨hb, rfl⟩
  exact Option.some.inj (h1.uniq h2)
theorem qa_mul {u v w : Rat} (hw : 0 ≤ w) (h : u * v = w) : qa u * qa v = w := by
  apply sq_nn (Rat.mul_nonneg (nn_of (qa_num u)) (nn_of (qa_num v))) hw
  have h1 := qa_sq u
  have h2 := qa_sq v
  rw [← h]
  have l : qa u * qa v * (qa u * qa v) = (qa u * qa u) * (qa v * qa v) := by grind
  rw [l, h1, h2]
  grind
/-- a triangle with sides above nought -/
structure Pos (c : C3) : Prop where
  a : 0 < c.1.num
  b : 0 < c.2.1.num
  c : 0 < c.2.2.num
theorem two_n0 {n : Int} (h : 0 < n) : (0 : Rat) ≤ ((2 * n : Int) : Rat) := by
  have h2 : ((0 : Int) : Rat) ≤ ((2 * n : Int) : Rat) := Rat.intCast_le_intCast.mpr (by omega)
  exact h2
theorem told_tri {n : Int} {x y : Rat} (n0 : 0 < n) (o : On (en n) (some (x, y))) (y0 : y ≠ 0) :
    Tri n (qa ((x * x - ((n * n : Int) : Rat)) / y), qa (((2 * n : Int) : Rat) * x / y), qa ((x * x + ((n * n : Int) : Rat)) / y)) ∧ Pos (qa ((x * x - ((n * n : Int) : Rat)) / y), qa (((2 * n : Int) : Rat) * x / y), qa ((x * x + ((n * n : Int) : Rat)) / y)) := by
  replace o : y * y = (en n).f x := o
  rw [en_f] at o
  have enn : ((n * n : Int) : Rat) = (n : Rat) * n := by
    push_cast
    rfl
  have hw := two_n0 n0
  have e2 := two_n n
  rw [enn]
  obtain ⟨a, ha⟩ : ∃ a, (x * x - (n : Rat) * n) / y = a := ⟨_, rfl⟩
  obtain ⟨b, hb⟩ : ∃ a, ((2 * n : Int) : Rat) * x / y = a := ⟨_, rfl⟩
  obtain ⟨c, hc⟩ : ∃ a, (x * x + (n : Rat) * n) / y = a := ⟨_, rfl⟩
  rw [ha, hb, hc]
  have fa := div_is y0 ha.symm
  have fb := div_is y0 hb.symm
  have fc := div_is y0 hc.symm
  have n1 := n_ne n0
  have p : a * b = ((2 * n : Int) : Rat) := by
    rw [e2] at fb ⊢
    apply cancel (qmul_ne y0 y0)
    have l : a * b * (y * y) = (a * y) * (b * y) := by grind
    rw [l, fa, fb, o]
    grind
  have s : a * a + b * b = c * c := by
    rw [e2] at fb
    apply cancel (qmul_ne y0 y0)
    have l : (a * a + b * b) * (y * y) = (a * y) * (a * y) + (b * y) * (b * y) := by grind
    have r : c * c * (y * y) = (c * y) * (c * y) := by grind
    rw [l, r, fa, fb, fc]
    grind
  have t : Tri n (qa a, qa b, qa c) := ⟨n0, by show qa a * qa a + qa b * qa b = qa c * qa c; rw [qa_sq, qa_sq, qa_sq, s], qa_mul hw p⟩
  refine ⟨t, num_pos_of (qa_num a) t.a0, num_pos_of (qa_num b) t.b0, num_pos_of (qa_num c) ?_⟩
  intro z
  replace z : qa c = 0 := z
  have h1 := t.s
  replace h1 : qa a * qa a + qa b * qa b = qa c * qa c := h1
  rw [z, Rat.mul_zero] at h1
  have h2 : (0 : Rat) ≤ qa a * qa a := Rat.mul_nonneg (nn_of (qa_num a)) (nn_of (qa_num a))
  have h3 : (0 : Rat) ≤ qa b * qa b := Rat.mul_nonneg (nn_of (qa_num b)) (nn_of (qa_num b))
  have h4 : qa a * qa a = 0 := by
    grind
  rcases Rat.mul_eq_zero.mp h4 with z | z <;> exact t.a0 z
theorem Tri.swap {n : Int} {a b c : Rat} (h : Tri n (a, b, c)) : Tri n (b, a, c) := ⟨h.n0, by show b * b + a * a = c * c; rw [Rat.add_comm]; exact h.s, by show b * a = _; rw [Rat.mul_comm]; exact h.p⟩
theorem told_ok {n : Int} {x y : Rat} {c : C3} (n0 : 0 < n) (o : On (en n) (some (x, y))) (h : told n (some (x, y)) = some c) : Tri n c ∧ Pos c := by
  by_cases y0 : y = 0
  · have : told n (some (x, y)) = none := if_pos y0
    rw [this] at h
    cases h
  · obtain ⟨t, p⟩ := told_tri n0 o y0
    have e : told n (some (x, y)) = _ := if_neg y0
    rw [e] at h
    split at h
    · obtain rfl := Option.some.inj h
      exact ⟨t, p⟩
    · obtain rfl := Option.some.inj h
      exact ⟨t.swap, p.b, p.a, p.c⟩
/-! ### sizes -/
theorem en_bd {n : Int} (h : B 7 n) : (en n).Bd 15 := ⟨by decide, Z.lit (x := 0) (by decide), ((B.neg h).mul h).up (by decide), Z.lit (x := 0) (by decide)⟩
theorem side_RB {n : Int} {x y : Rat} {h : Nat} (hn : B 7 n) (o : On (en n) (some (x, y))) (y0 : y ≠ 0) (hB : RB h x) :
    RB (2 * h + 15) ((x * x - ((n * n : Int) : Rat)) / y) ∧ RB (2 * h + 15) (((2 * n : Int) : Rat) * x / y) ∧ RB (2 * h + 15) ((x * x + ((n * n : Int) : Rat)) / y) := by
  obtain ⟨Y, hY, zY⟩ := y_is (show y * y = (en n).f x from o) hB (en_bd hn)
  have ex := x_num x
  have dx := denR x
  have zA : Z h x.num := hB.1
  have zD : Z h (x.den : Int) := hB.2
  have zn : Z 7 n := hn
  have Y0 : Y ≠ 0 := fun z => by
    rw [z] at hY
    have h1 : y * (((x.den : Int) : Rat) * ((x.den : Int) : Rat)) ≠ 0 := qmul_ne y0 (qmul_ne dx dx)
    exact h1 hY
  refine ⟨rb_of (d := Y) (n := x.num * x.num - n * n * ((x.den : Int) * (x.den : Int))) ?_ Y0 ?_ zY, rb_of (d := Y) (n := 2 * n * (x.num * (x.den : Int))) ?_ Y0 ?_ zY, rb_of (d := Y) (n := x.num * x.num + n * n * ((x.den : Int) * (x.den : Int))) ?_ Y0 ?_ zY⟩
  · have f := div_is y0 (show (x * x - ((n * n : Int) : Rat)) / y = _ from rfl)
    rw [← hY]
    generalize (x * x - ((n * n : Int) : Rat)) / y = q at f ⊢
    rw [Rat.intCast_sub, Rat.intCast_mul, Rat.intCast_mul, Rat.intCast_mul (x.den : Int), ← ex]
    generalize ((x.den : Int) : Rat) = d at *
    have l : q * (y * (d * d)) = q * y * (d * d) := by grind
    rw [l, f]
    grind
  · exact ((zA.mul zA).up (by omega)).sub (n := 2 * h + 15) (m := 2 * h + 14) (((zn.mul zn).mul (zD.mul zD)).up (by omega)) (by omega)
  · have f := div_is y0 (show ((2 * n : Int) : Rat) * x / y = _ from rfl)
    rw [← hY]
    generalize ((2 * n : Int) : Rat) * x / y = q at f ⊢
    rw [Rat.intCast_mul (2 * n), Rat.intCast_mul x.num, ← ex]
    generalize ((x.den : Int) : Rat) = d at *
    have l : q * (y * (d * d)) = q * y * (d * d) := by grind
    rw [l, f]
    grind
  · exact (((Z.lit (n := 2) (x := 2) (by decide)).mul zn).mul (zA.mul zD)).up (by omega)
  · have f := div_is y0 (show (x * x + ((n * n : Int) : Rat)) / y = _ from rfl)
    rw [← hY]
    generalize (x * x + ((n * n : Int) : Rat)) / y = q at f ⊢
    rw [Rat.intCast_add, Rat.intCast_mul, Rat.intCast_mul, Rat.intCast_mul (x.den : Int), ← ex]
    generalize ((x.den : Int) : Rat) = d at *
    have l : q * (y * (d * d)) = q * y * (d * d) := by grind
    rw [l, f]
    grind
  · exact ((zA.mul zA).up (by omega)).add (n := 2 * h + 15) (m := 2 * h + 14) (((zn.mul zn).mul (zD.mul zD)).up (by omega)) (by omega)
theorem told_CB {n : Int} {x y : Rat} {c : C3} {h : Nat} (hn : B 7 n) (o : On (en n) (some (x, y))) (hB : RB h x) (k : told n (some (x, y)) = some c) : RB (2 * h + 15) c.1 ∧ RB (2 * h + 15) c.2.1 ∧ RB (2 * h + 15) c.2.2 := by
  by_cases y0 : y = 0
  · have : told n (some (x, y)) = none := if_pos y0
    rw [this] at k
    cases k
  · obtain ⟨b1, b2, b3⟩ := side_RB hn o y0 hB
    have e : told n (some (x, y)) = _ := if_neg y0
    rw [e] at k
    split at k
    · obtain rfl := Option.some.inj k
      exact ⟨qa_RB b1, qa_RB b2, qa_RB b3⟩
    · obtain rfl := Option.some.inj k
      exact ⟨qa_RB b2, qa_RB b1, qa_RB b3⟩
/-- points of order two added -/
theorem tor_HB {n t : Int} {S : Pt} {h : Nat} (hn : B 7 n) (ht : t = 0 ∨ t = n ∨ t = -n) (o : On (en n) S) (hB : HB h S) : HB (h + 15) (sum (en n) S (some ((t : Rat), 0))) := by
  match S, o, hB with
  | none, _, _ =>
    have zt : Z 7 t := by
      unfold Z
      unfold B at hn
      rcases ht with rfl | rfl | rfl <;> omega
    exact (RB.int (m := 7) zt (by decide)).up (by omega)
  | some (x, y), o, hB =>
    show HB _ (if x = (t : Rat) ∧ -y = 0 then none else _)
    split
    · trivial
    rename_i hop
    replace o : y * y = (en n).f x := o
    have o2 : (0 : Rat) * 0 = (en n).f (t : Rat) := by
      rw [en_f]
      rcases ht with rfl | rfl | rfl <;> push_cast <;> grind
    have sl := slope_is o o2 hop
    rw [en_f] at o
    rcases sl with ⟨hx, hk⟩ | ⟨hx, hy, y0, _⟩
    case inr => exact absurd hy y0
    show RB (h + 15) (px (en n) (slo (en n) x y (t : Rat) 0) x (t : Rat))
    generalize slo (en n) x y (t : Rat) 0 = k at hk ⊢
    have epx : px (en n) k x (t : Rat) = k * k - x - (t : Rat) := by
      show k * k - ((0 : Int) : Rat) - x - (t : Rat) = _
      have : ((0 : Int) : Rat) = 0 := rfl
      rw [this]
      grind
    rw [epx]
    have ne : x - (t : Rat) ≠ 0 := by
      intro z
      exact hx (by grind)
    replace hB : RB h x := hB
    have ex := x_num x
    have dx := denR x
    have zA : Z h x.num := hB.1
    have zD : Z h (x.den : Int) := hB.2
    have zt : Z 7 t := by
      unfold Z
      unfold B at hn
      rcases ht with rfl | rfl | rfl <;> omega
    rcases ht with rfl | ht
    · have z0 : ((0 : Int) : Rat) = 0 := rfl
      rw [z0] at hk ne ⊢
      have x0 : x ≠ 0 := fun z => ne (by rw [z]; grind)
      have key : (k * k - x - 0) * x = -((n : Rat) * n) := by
        apply cancel x0
        have : (k * (0 - x)) * (k * (0 - x)) = (0 - y) * (0 - y) := by rw [hk]
        grind
      refine rb_of (d := x.num) (n := -(n * n) * (x.den : Int)) ?_ (num_ne x0) ?_ (zA.up (by omega))
      · rw [← ex, Rat.intCast_mul, Rat.intCast_neg, Rat.intCast_mul]
        generalize ((x.den : Int) : Rat) = d at *
        have l : (k * k - x - 0) * (x * d) = (k * k - x - 0) * x * d := by grind
        rw [l, key]
      · have zn : Z 7 n := hn
        have zm : Z 14 (-(n * n)) := B.neg (zn.mul zn : B 14 (n * n))
        exact (zm.mul zD).up (by omega)
    · have tt : (t : Rat) * t = (n : Rat) * n := by
        rcases ht with rfl | rfl
        · rfl
        · push_cast
          grind
      have key : (k * k - x - (t : Rat)) * (x - (t : Rat)) = (t : Rat) * (x + (t : Rat)) := by
        apply cancel ne
        have : (k * ((t : Rat) - x)) * (k * ((t : Rat) - x)) = (0 - y) * (0 - y) := by rw [hk]
        generalize (t : Rat) = t at *
        generalize (n : Rat) = n at *
        grind
      have nd : x.num - t * (x.den : Int) ≠ 0 := by
        intro z
        apply ne
        have z2 : ((x.num - t * (x.den : Int) : Int) : Rat) = 0 := by rw [z]; rfl
        rw [Rat.intCast_sub, Rat.intCast_mul, ← ex] at z2
        have z3 : (x - (t : Rat)) * ((x.den : Int) : Rat) = 0 := by grind
        rcases Rat.mul_eq_zero.mp z3 with z4 | z4
        · exact z4
        · exact absurd z4 dx
      refine rb_of (d := x.num - t * (x.den : Int)) (n := t * (x.num + t * (x.den : Int))) ?_ nd ?_ ?_
      · rw [Rat.intCast_sub, Rat.intCast_mul, Rat.intCast_mul, Rat.intCast_add, Rat.intCast_mul, ← ex]
        generalize ((x.den : Int) : Rat) = d at *
        have l : (k * k - x - (t : Rat)) * (x * d - (t : Rat) * d) = (k * k - x - (t : Rat)) * (x - (t : Rat)) * d := by grind
        rw [l, key]
        grind
      · exact (zt.mul ((zA.up (n := h + 7) (by omega)).add ((zt.mul zD).up (by omega)) (n := h + 8) (by omega))).up (by omega)
      · exact (zA.up (n := h + 7) (by omega)).sub ((zt.mul zD).up (by omega)) (by omega)
end K52
set_option Elab.async false
set_option linter.all false
set_option maxRecDepth 100000
set_option maxHeartbeats 4000000
namespace K52
open PySem PySem.Spec PyProof.Rows L2 Gd QM EcM EcP
local macro_rules | `(tactic| walk_at "mm") => `(tactic| (repeat (first | exact List.mem_cons_self | apply List.mem_cons_of_mem)))
section
variable {P : Program} {w : World} {K : PySem.W.Frag} {mg : Str → Option Value} {base : Heap}
/-! ### the class of a number by squares -/
def sp_law_class (K : PySem.W.Frag) : Sp := fun vs H Q _ => ∃ n : Int, vs = [.int n] ∧ 0 < n ∧ B 40 n ∧ ∀ c s, 0 < c → 0 < s → n = c * (s * s) → Q (.int c) H
theorem le_mul {c s : Int} (h0 : 0 < c) (s0 : 0 < s) : c ≤ c * (s * s) := by
  have h1 : 1 ≤ s * s := by
    have := Int.mul_le_mul (show 1 ≤ s by omega) (show 1 ≤ s by omega) (by decide) (by omega)
    omega
  have := Int.mul_le_mul_of_nonneg_left h1 (Int.le_of_lt h0)
  omega
theorem le_sq {p : Int} (h : 2 ≤ p) : p + 1 ≤ p * p := by
  have := Int.mul_le_mul_of_nonneg_right h (show 0 ≤ p by omega)
  omega
abbrev s__law_class : Stmt := topS 25
theorem sc__law_class : FnScope ["n", "p"] ["n"] (defScope s__law_class) := ⟨rfl, rfl, rfl, by decide +kernel, rfl, by decide +kernel, by decide +kernel⟩
theorem k_law_class (T : Tx K mg) (D : Df K mg "_law_class" s__law_class ["n"])  : Kl P w K mg base 1 "_law_class" (sp_law_class K) := by
  have nd := sc__law_class.nd
  refine Kl.by_body D sc__law_class (fun vs H Q E h => ?_) (fun f cdv A outer s H vs Q E hr h => ?_)
  · obtain ⟨_, rfl, _⟩ := h
    rfl
  · obtain ⟨n, rfl, n0, hB, q⟩ := h
    have hu1 := hu_of hr
    refine ⟨_, (pss_cons (ps_set (i := 1) nd rfl (by first | exact Or.inl rfl | exact Or.inr rfl) pe_int)
      (pss_cons (ps_while PassesOwn.never (pt_cmpR op_le (pe_op op_mulW (pv 1) (pv 1)) (pe_callB call_abs (by rfl) T.abs (by decide +kernel) (pa_cons (pv 0) pa_nil)) (nomark _)) (pss_cons (ps_while PassesOwn.never (pt_cmpR op_eq (pe_op op_mod (pe_callTy call_intI (by rfl) T.int (by decide +kernel) (pa_cons (pv 0) pa_nil)) (pe_op op_mulW (pv 1) (pv 1))) pe_int (nomark _)) (pss_one (ps_set (i := 0) nd rfl (by first | exact Or.inl rfl | exact Or.inr rfl) (pe_op op_fdivAny (pv 0) (pe_op op_mulW (pv 1) (pv 1))))))
      (pss_one (ps_set (i := 1) nd rfl (by first | exact Or.inl rfl | exact Or.inr rfl) (pe_op op_add (pv 1) pe_int)))))
      (pss_one (ps_ret (pv 0))))), ?_⟩
    refine while_by (fun σ H2 => H2 = H ∧ ∃ c p s : Int, σ = [some (.int c), some (.int p)] ∧ 0 < c ∧ 2 ≤ p ∧ p ≤ n + 1 ∧ 0 < s ∧ n = c * (s * s))
      (fun σ _ => match σ with | [_, some (.int p)] => (n + 1 - p).toNat | _ => 0) ⟨rfl, n, 2, 1, rfl, n0, by decide, by omega, by decide, by omega⟩ ?_ ?_
    · rintro σ H2 ⟨rfl, c, p, s, rfl, c0, p2, pn, s0, e⟩
      have cn : c ≤ n := by
        have := le_mul c0 s0
        omega
      have cB : B 41 c := by
        unfold B at *
        omega
      have pB : B 41 p := by
        unfold B at *
        omega
      refine ⟨_, rfl, _, rfl, _, _, rfl, rfl, pB.mulW pB (by decide), _, rfl, c, rfl, _, _, rfl, rfl, _, rfl, ?_⟩
      rw [abs_eq]
      by_cases hp : p * p ≤ (c.natAbs : Int)
      · refine iteY (decide_eq_true hp) ?_
        have hpp := le_sq p2
        refine while_by (fun σ H3 => H3 = H2 ∧ ∃ c s : Int, σ = [some (.int c), some (.int p)] ∧ 0 < c ∧ 0 < s ∧ n = c * (s * s))
          (fun σ _ => match σ with | [some (.int c), _] => c.toNat | _ => 0) ⟨rfl, c, s, rfl, c0, s0, e⟩ ?_ ?_
        · rintro σ H3 ⟨rfl, c, s, rfl, c0, s0, e⟩
          have cn : c ≤ n := by
            have := le_mul c0 s0
            omega
          have cB : B 41 c := by
            unfold B at *
            omega
          refine ⟨_, rfl, _, rfl, _, rfl, _, rfl, _, _, rfl, rfl, pB.mulW pB (by decide), _, _, rfl, rfl, by omega, rfl, _, rfl, ?_⟩
          rw [dec_int]
          by_cases hd : c % (p * p) = 0
          · refine iteY (by simpa using hd) ?_
            have pp0 : p * p ≠ 0 := by omega
            have dv : CDivAny c (p * p) := div_any (m := 82) pp0 (pB.mul pB) (by decide)
            refine ⟨_, rfl, _, rfl, _, rfl, _, _, rfl, rfl, pB.mulW pB (by decide), _, _, rfl, rfl, dv, ?_⟩
            have ec : c.fdiv (p * p) * (p * p) = c := by
              rw [Int.fdiv_eq_ediv_of_nonneg _ (by omega)]
              exact Int.ediv_mul_cancel (Int.dvd_of_emod_eq_zero hd)
            first | refine sigN [some (.int (c.fdiv (p * p))), some (.int (p))] (by rfl) ?_ | refine sig [some (.int (c.fdiv (p * p))), some (.int (p))] (by rfl) ?_
            generalize c.fdiv (p * p) = d at ec ⊢
            have d0 : 0 < d := by
              rcases Int.lt_or_le 0 d with z | z
              · exact z
              · have := Int.mul_le_mul_of_nonneg_right z (show 0 ≤ p * p by omega)
                omega
            have dc : d < c := by
              have := Int.mul_le_mul_of_nonneg_left (show 2 ≤ p * p by omega) (Int.le_of_lt d0)
              omega
            refine ⟨⟨rfl, d, s * p, rfl, d0, Int.mul_pos s0 (by omega), ?_⟩, ?_⟩
            · rw [e, ← ec]
              grind
            · show d.toNat < c.toNat
              omega
          · refine iteN (by simpa using hd) ?_
            refine ⟨_, rfl, _, _, rfl, rfl, ?_⟩
            refine ⟨⟨rfl, c, p + 1, s, rfl, c0, by omega, by omega, s0, e⟩, ?_⟩
            show (n + 1 - (p + 1)).toNat < (n + 1 - p).toNat
            omega
        · rintro σ H3 Q1 Q2 i ⟨v, hv, j, ej, v1, hv1, v2, hv2, x, y, e1, e2, c, x2, y2, e3, e4, pos, r, b, eb, z⟩
          exact ⟨v, hv, j, ej, v1, hv1, v2, hv2, x, y, e1, e2, c, x2, y2, e3, e4, pos, r, b, eb, i _ _ z⟩
      · refine iteN (by simpa using hp) ?_
        exact ⟨_, rfl, q c s c0 s0 e⟩
    · rintro σ H3 Q1 Q2 i ⟨v1, hv1, v2, hv2, x, y, e1, e2, c, v, hv, j, ej, x2, y2, e3, e4, b, eb, z⟩
      exact ⟨v1, hv1, v2, hv2, x, y, e1, e2, c, v, hv, j, ej, x2, y2, e3, e4, b, eb, i _ _ z⟩
/-! ### a list of fractions that is being made -/
def FqD (H : Hp) (D : Addr) (qs : List Rat) (i : Nat) : Prop := ∃ L : List Addr, H D = some (.lst (L.map V.ref)) ∧ L.length = i ∧ ∀ (j : Nat) (p : Addr), L[j]? = some p → ∃ q : Rat, qs[j]? = some q ∧ H p = some (.tup (fq q))
theorem FqD.new {H : Hp} {D : Addr} {qs : List Rat} : FqD (upd H D (.lst [])) D qs 0 := ⟨[], upd_same, rfl, fun j p h => by simp at h⟩
theorem FqD.push {H H' : Hp} {D t : Addr} {qs : List Rat} {i : Nat} {q : Rat} (h : FqD H D qs i) (s : Same H H') (hi : qs[i]? = some q) (ht : H' t = some (.tup (fq q))) (hl : i < 1000) :
    ∃ acc, H' D = some (.lst acc) ∧ acc.length < sizeLine ∧ FqD (upd H' D (.lst (acc ++ [.ref t]))) D qs (i + 1) := by
  obtain ⟨L, h1, h2, h3⟩ := h
  have h1' := s _ _ h1
  refine ⟨L.map V.ref, h1', by rw [List.length_map]; exact small1000 (by omega), L ++ [t], ?_, by rw [List.length_append, h2]; rfl, fun j p hj => ?_⟩
  · rw [upd_same, List.map_append]
    rfl
  · rcases Nat.lt_or_ge j L.length with z | z
    · rw [List.getElem?_append_left z] at hj
      obtain ⟨m, hm, hp⟩ := h3 j p hj
      have hp' := s _ _ hp
      refine ⟨m, hm, ?_⟩
      rw [upd_ne (ne_of hp' h1' (by intro z; cases z))]
      exact hp'
    · rw [List.getElem?_append_right z] at hj
      have e : j - L.length = 0 := by
        rcases Nat.eq_zero_or_pos (j - L.length) with q | q
        · exact q
        · rw [List.getElem?_eq_none (by simp; omega)] at hj
          cases hj
      rw [e] at hj
      obtain rfl := Option.some.inj hj
      have ej : j = i := by omega
      refine ⟨q, by rw [ej]; exact hi, ?_⟩
      rw [upd_ne (ne_of ht h1' (by intro z; cases z))]
      exact ht
theorem FqD.three {H : Hp} {D : Addr} {a b c : Rat} (h : FqD H D [a, b, c] 3) : ∃ p1 p2 p3, H D = some (.lst [.ref p1, .ref p2, .ref p3]) ∧ H p1 = some (.tup (fq a)) ∧ H p2 = some (.tup (fq b)) ∧ H p3 = some (.tup (fq c)) := by
  obtain ⟨L, h1, h2, h3⟩ := h
  match L, h2 with
  | [p1, p2, p3], _ =>
    have g : ∀ (j : Nat) (p : Addr) (n : Rat), [p1, p2, p3][j]? = some p → [a, b, c][j]? = some n → H p = some (.tup (fq n)) := fun j p n x y => by
      obtain ⟨m, hm, hp⟩ := h3 j p x
      rw [y] at hm
      obtain rfl := Option.some.inj hm
      exact hp
    exact ⟨p1, p2, p3, h1, g 0 _ _ rfl rfl, g 1 _ _ rfl rfl, g 2 _ _ rfl rfl⟩
/-! ### squares in steps -/
/-- half the sums, squared -/
def stp (c : C3) : C3 := ((c.1 - c.2.1) / 2 * ((c.1 - c.2.1) / 2), c.2.2 / 2 * (c.2.2 / 2), (c.1 + c.2.1) / 2 * ((c.1 + c.2.1) / 2))
def sp_squares_in_steps (K : PySem.W.Frag) : Sp := fun vs H Q _ => ∃ (n : Int) (p : Addr) (c : C3), vs = [.int n, .ref p] ∧ TrT K H p c ∧ RB 800 c.1 ∧ RB 800 c.2.1 ∧ RB 800 c.2.2 ∧ ∀ t H', Same H H' → TrT K H' t (stp c) → Q (.ref t) H'
abbrev s_squares_in_steps : Stmt := topS 18
theorem sc_squares_in_steps : FnScope ["n", "triangle", "sides", "side", "first", "second", "last"] ["n", "triangle"] (defScope s_squares_in_steps) := ⟨rfl, rfl, rfl, by decide +kernel, rfl, by decide +kernel, by decide +kernel⟩
theorem k_squares_in_steps (T : Tx K mg) (D : Df K mg "squares_in_steps" s_squares_in_steps ["n", "triangle"]) (c_over : Kl P w K mg base 2 "over" (sp_over K)) (c_less : Kl P w K mg base 2 "less" (sp_less K)) (c_plus : Kl P w K mg base 2 "plus" (sp_plus K)) (c_times : Kl P w K mg base 2 "times" (sp_times K)) : Kl P w K mg base 3 "squares_in_steps" (sp_squares_in_steps K) := by
  have nd := sc_squares_in_steps.nd
  refine Kl.by_body D sc_squares_in_steps (fun vs H Q E h => ?_) (fun f cdv A outer s H vs Q E hr h => ?_)
  · obtain ⟨_, _, _, rfl, _⟩ := h
    rfl
  · obtain ⟨n, p, ⟨c1, c2, c3⟩, rfl, ⟨pa, pb, pc, h0, h1, h2, h3⟩, b1, b2, b3, q⟩ := h
    have hu1 := hu_of hr
    refine ⟨_, (pss_cons (ps_setLc (i := 2) (own := [("side", 3)]) (g := gName 3) rfl nd rfl rfl (sw_true rfl rfl rfl (by decide +kernel)) (pi_tup (pv 1)) (blkOk_by (N := ["n", "triangle", "sides", "side", "first", "second", "last"]) (sc := defScope s_squares_in_steps) (by decide +kernel)) (fun _ _ _ _ _ => (pg_name (i := 3) nd rfl (by first | exact Or.inl rfl | exact Or.inr rfl))) (fun _ _ _ _ _ => pts_nil) (fun _ _ _ _ _ => (pe_k c_over  hr (by decide) (by rfl) (pa_cons (pv 3) (pa_cons (pe_tup (pa_cons pe_int (pa_cons pe_int pa_nil))) pa_nil)))))
      (pss_cons (ps_par3 (i := 4) (j := 5) (l := 6) (by rfl) nd rfl rfl rfl (by decide) (by decide) (by decide) rfl rfl rfl (pa_cons (pe_k c_less  hr (by decide) (by rfl) (pa_cons (pe_ix ix_list (pv 2) pe_int (fun _ _ => rfl)) (pa_cons (pe_ix ix_list (pv 2) pe_int (fun _ _ => rfl)) pa_nil))) (pa_cons (pe_k c_plus  hr (by decide) (by rfl) (pa_cons (pe_ix ix_list (pv 2) pe_int (fun _ _ => rfl)) (pa_cons (pe_ix ix_list (pv 2) pe_int (fun _ _ => rfl)) pa_nil))) (pa_cons (pe_ix ix_list (pv 2) pe_int (fun _ _ => rfl)) pa_nil))) (by rfl))
      (pss_one (ps_ret (pe_tup (pa_cons (pe_k c_times  hr (by decide) (by rfl) (pa_cons (pv 4) (pa_cons (pv 4) pa_nil))) (pa_cons (pe_k c_times  hr (by decide) (by rfl) (pa_cons (pv 6) (pa_cons (pv 6) pa_nil))) (pa_cons (pe_k c_times  hr (by decide) (by rfl) (pa_cons (pv 5) (pa_cons (pv 5) pa_nil))) pa_nil)))))))), ?_⟩
    replace h1 : SqT K H pa (fq c1) := h1
    replace h2 : SqT K H pb (fq c2) := h2
    replace h3 : SqT K H pc (fq c3) := h3
    replace b1 : RB 800 c1 := b1
    replace b2 : RB 800 c2 := b2
    replace b3 : RB 800 c3 := b3
    refine ⟨_, rfl, p, rfl, ⟨_, h0⟩, fun D hD => ?_⟩
    refine lc_tup (K := K) (a := p) (xs := [.ref pa, .ref pb, .ref pc]) (fun i H4 => Same H H4 ∧ FqD H4 D [c1 / 2, c2 / 2, c3 / 2] i) ⟨Same.new hD, FqD.new⟩ (fun i H4 _ z => Same.tup z.1 h0) (fun i v H4 hi z => ?_) (fun H4 z => ?_)
    · obtain ⟨s4, hd⟩ := z
      obtain ⟨a, k, rfl, hk, ha, hb, hi3⟩ : ∃ (a : Addr) (k : Rat), v = .ref a ∧ [c1 / 2, c2 / 2, c3 / 2][i]? = some (k / 2) ∧ SqT K H a (fq k) ∧ RB 800 k ∧ i < 3 := by
        rcases (show i = 0 ∨ i = 1 ∨ i = 2 ∨ 3 ≤ i by omega) with rfl | rfl | rfl | z
        · exact ⟨pa, c1, (Option.some.inj hi).symm, rfl, h1, b1, by decide⟩
        · exact ⟨pb, c2, (Option.some.inj hi).symm, rfl, h2, b2, by decide⟩
        · exact ⟨pc, c3, (Option.some.inj hi).symm, rfl, h3, b3, by decide⟩
        · rw [List.getElem?_eq_none (by simpa using z)] at hi
          cases hi
      refine ⟨rfl, _, rfl, (by show 2 ≤ sizeLine; decide), fun c nc => ?_⟩
      have s5 := Same.new (H := H4) (p := c) (o := .tup [.int 2, .int 1]) nc
      have gc : upd H4 c (.tup [.int 2, .int 1]) c = some (.tup [.int 2, .int 1]) := upd_same
      generalize upd H4 c (.tup [.int 2, .int 1]) = H5 at s5 gc ⊢
      refine ⟨a, c, k, 2, _, _, rfl, Same.tup (s4.trans s5) ha, tup_of (xs := fq 2) gc, hb, rb_two, by decide, (by show (2 : Rat) ≠ 0; decide), fun t nt => ?_⟩
      have s6 := Same.new (H := H5) (p := t) (o := .tup (fq (k / 2))) nt
      have gt : upd H5 t (.tup (fq (k / 2))) t = some (.tup (fq (k / 2))) := upd_same
      generalize upd H5 t (.tup (fq (k / 2))) = H6 at s6 gt ⊢
      obtain ⟨acc, g1, g2, g3⟩ := hd.push (s5.trans s6) hk gt (by omega)
      exact ⟨acc, g1, g2, Same.put (s4.trans (s5.trans s6)) hD, g3⟩
    · obtain ⟨s4, hd⟩ := z
      obtain ⟨p1, p2, p3, gD, g1, g2, g3⟩ := hd.three
      first | refine sigN [some (.int (n)), some (.ref p), some (.ref D), none, none, none, none] (by rfl) ?_ | refine sig [some (.int (n)), some (.ref p), some (.ref D), none, none, none, none] (by rfl) ?_
      have t2 : (2 : Rat) ≠ 0 := by decide
      have E0 : FrE K H4 [(p1, c1 / 2, 802), (p2, c2 / 2, 802), (p3, c3 / 2, 802)] := FrE.add (FrE.add (FrE.add FrE.nil (tup_of g3) (RB.div t2 b3 rb_two)) (tup_of g2) (RB.div t2 b2 rb_two)) (tup_of g1) (RB.div t2 b1 rb_two)
      refine ⟨_, rfl, D, _, 0, .ref p1, rfl, rfl, lst_of gD, rfl, _, rfl, D, _, 1, .ref p2, rfl, rfl, lst_of gD, rfl, ?_⟩
      refine ⟨p1, p2, _, _, _, _, rfl, E0.get (by walk_at "mm"), E0.get (by walk_at "mm"), E0.rb (p := p1) (by walk_at "mm"), E0.rb (p := p2) (by walk_at "mm"), (by first | decide | omega), trivial, fun f1 nf1 => ?_⟩
      obtain ⟨H5, eH_, s5, E1⟩ := stepE E0 nf1 (RB.sub (E0.rb (p := p1) (by walk_at "mm")) (E0.rb (p := p2) (by walk_at "mm")))
      rw [eH_]
      clear eH_
      have gD5 := s5 _ _ gD
      refine ⟨_, rfl, D, _, 0, .ref p1, rfl, rfl, lst_of gD5, rfl, _, rfl, D, _, 1, .ref p2, rfl, rfl, lst_of gD5, rfl, ?_⟩
      refine ⟨p1, p2, _, _, _, _, rfl, E1.get (by walk_at "mm"), E1.get (by walk_at "mm"), E1.rb (p := p1) (by walk_at "mm"), E1.rb (p := p2) (by walk_at "mm"), (by first | decide | omega), trivial, fun f2 nf2 => ?_⟩
      obtain ⟨H6, eH_, s6, E2⟩ := stepE E1 nf2 (RB.add (E1.rb (p := p1) (by walk_at "mm")) (E1.rb (p := p2) (by walk_at "mm")))
      rw [eH_]
      clear eH_
      have gD6 := s6 _ _ gD5
      refine ⟨_, rfl, D, _, 2, .ref p3, rfl, rfl, lst_of gD6, rfl, _, _, _, rfl, ?_⟩
      first | refine sigN [some (.int (n)), some (.ref p), some (.ref D), none, some (.ref f1), some (.ref f2), some (.ref p3)] (by rfl) ?_ | refine sig [some (.int (n)), some (.ref p), some (.ref D), none, some (.ref f1), some (.ref f2), some (.ref p3)] (by rfl) ?_
      refine ⟨_, rfl, _, rfl, ?_⟩
      refine ⟨f1, f1, _, _, _, _, rfl, E2.get (by walk_at "mm"), E2.get (by walk_at "mm"), E2.rb (p := f1) (by walk_at "mm"), E2.rb (p := f1) (by walk_at "mm"), (by first | decide | omega), trivial, fun x1 nx1 => ?_⟩
      obtain ⟨H7, eH_, s7, E3⟩ := stepE E2 nx1 (RB.mul (E2.rb (p := f1) (by walk_at "mm")) (E2.rb (p := f1) (by walk_at "mm")))
      rw [eH_]
      clear eH_
      refine ⟨_, rfl, _, rfl, ?_⟩
      refine ⟨p3, p3, _, _, _, _, rfl, E3.get (by walk_at "mm"), E3.get (by walk_at "mm"), E3.rb (p := p3) (by walk_at "mm"), E3.rb (p := p3) (by walk_at "mm"), (by first | decide | omega), trivial, fun x2 nx2 => ?_⟩
      obtain ⟨H8, eH_, s8, E4⟩ := stepE E3 nx2 (RB.mul (E3.rb (p := p3) (by walk_at "mm")) (E3.rb (p := p3) (by walk_at "mm")))
      rw [eH_]
      clear eH_
      refine ⟨_, rfl, _, rfl, ?_⟩
      refine ⟨f2, f2, _, _, _, _, rfl, E4.get (by walk_at "mm"), E4.get (by walk_at "mm"), E4.rb (p := f2) (by walk_at "mm"), E4.rb (p := f2) (by walk_at "mm"), (by first | decide | omega), trivial, fun x3 nx3 => ?_⟩
      obtain ⟨H9, eH_, s9, E5⟩ := stepE E4 nx3 (RB.mul (E4.rb (p := f2) (by walk_at "mm")) (E4.rb (p := f2) (by walk_at "mm")))
      rw [eH_]
      clear eH_
      refine ⟨(by show 3 ≤ sizeLine; decide), fun r nr => ?_⟩
      have sr := Same.new (H := H9) (p := r) (o := .tup [.ref x1, .ref x2, .ref x3]) nr
      have E6 := E5.same sr
      have d1 : c1 / 2 - c2 / 2 = (c1 - c2) / 2 := by grind
      have d2 : c1 / 2 + c2 / 2 = (c1 + c2) / 2 := by grind
      exact q r _ (s4.trans (s5.trans (s6.trans (s7.trans (s8.trans (s9.trans sr)))))) ⟨x1, x2, x3, tup_of upd_same, sq_eq (E6.get (p := x1) (by walk_at "mm")) (by rw [d1]; rfl), E6.get (p := x2) (by walk_at "mm"), sq_eq (E6.get (p := x3) (by walk_at "mm")) (by rw [d2]; rfl)⟩
end
end K52
set_option Elab.async false
set_option linter.all false
set_option maxRecDepth 100000
set_option maxHeartbeats 4000000
namespace K52
open PySem PySem.Spec PyProof.Rows L2 Gd QM EcM EcP
/-- a triangle that is drawn -/
structure Dw (n : Int) (c : C3) : Prop where
  t : Tri n c
  n1 : n ≤ 100
  b1 : RB 11 c.1
  b2 : RB 11 c.2.1
  b3 : RB 11 c.2.2
  x : RB 12 (tpt n c).1
theorem dw_of {n s p q : Int} (n0 : 0 < n) (n1 : n ≤ 100) (s0 : 0 < s) (s1 : s < 1000) (q0 : 1 ≤ q) (q1 : q ≤ 11) (p0 : q < p) (p1 : p ≤ 24) (e : p * q * (p * p - q * q) = n * (s * s)) : Dw n (Rat.divInt (p * p - q * q) s, Rat.divInt (2 * p * q) s, Rat.divInt (p * p + q * q) s) := by
  have sz : s ≠ 0 := by omega
  have hs : (s : Rat) ≠ 0 := fun z => sz (by exact_mod_cast z)
  have e' : (p : Rat) * q * ((p : Rat) * p - (q : Rat) * q) = (n : Rat) * ((s : Rat) * s) := by exact_mod_cast e
  have da := div_is hs (show Rat.divInt (p * p - q * q) s = ((p * p - q * q : Int) : Rat) / (s : Rat) from Rat.divInt_eq_div _ _)
  have db := div_is hs (show Rat.divInt (2 * p * q) s = ((2 * p * q : Int) : Rat) / (s : Rat) from Rat.divInt_eq_div _ _)
  have dc := div_is hs (show Rat.divInt (p * p + q * q) s = ((p * p + q * q : Int) : Rat) / (s : Rat) from Rat.divInt_eq_div _ _)
  have pq : p * p ≤ 24 * 24 := Int.mul_le_mul p1 p1 (by omega) (by decide)
  have qq : q * q ≤ 11 * 11 := Int.mul_le_mul q1 q1 (by omega) (by decide)
  have pqq : p * q ≤ 24 * 11 := Int.mul_le_mul p1 q1 (by omega) (by decide)
  have z1 := sq0 p
  have z2 := sq0 q
  have z3 : 0 ≤ p * q := Int.mul_nonneg (by omega) (by omega)
  have r1 : RB 11 (Rat.divInt (p * p - q * q) s) := RB.of sz (by omega) (by omega)
  have r2 : RB 11 (Rat.divInt (2 * p * q) s) := RB.of sz (by rw [Int.mul_assoc]; omega) (by omega)
  have r3 : RB 11 (Rat.divInt (p * p + q * q) s) := RB.of sz (by omega) (by omega)
  obtain ⟨a, ha⟩ : ∃ a, Rat.divInt (p * p - q * q) s = a := ⟨_, rfl⟩
  obtain ⟨b, hb⟩ : ∃ a, Rat.divInt (2 * p * q) s = a := ⟨_, rfl⟩
  obtain ⟨c, hc⟩ : ∃ a, Rat.divInt (p * p + q * q) s = a := ⟨_, rfl⟩
  rw [ha] at da r1 ⊢
  rw [hb] at db r2 ⊢
  rw [hc] at dc r3 ⊢
  push_cast at da db dc
  have hp : (p : Rat) ≠ 0 := fun z => by
    have : p = 0 := by exact_mod_cast z
    omega
  have t : Tri n (a, b, c) := by
    refine ⟨n0, ?_, ?_⟩
    · show a * a + b * b = c * c
      apply cancel (qmul_ne hs hs)
      have l : (a * a + b * b) * ((s : Rat) * s) = (a * s) * (a * s) + (b * s) * (b * s) := by grind
      have r : c * c * ((s : Rat) * s) = (c * s) * (c * s) := by grind
      rw [l, r, da, db, dc]
      grind
    · show a * b = ((2 * n : Int) : Rat)
      rw [two_n]
      apply cancel (qmul_ne hs hs)
      have l : a * b * ((s : Rat) * s) = (a * s) * (b * s) := by grind
      rw [l, da, db]
      grind
  refine ⟨t, n1, r1, r2, r3, ?_⟩
  have ex := tpt_x t
  obtain ⟨x, hx⟩ : ∃ x, (tpt n (a, b, c)).1 = x := ⟨_, rfl⟩
  rw [hx] at ex ⊢
  replace ex : x * b = (n : Rat) * (a + c) := ex
  have nB : n * p ≤ 100 * 24 := Int.mul_le_mul n1 p1 (by omega) (by decide)
  have nB0 : 0 ≤ n * p := Int.mul_nonneg (by omega) (by omega)
  refine rb_of (d := q) (n := n * p) ?_ (by omega) (Z.lit (by omega)) (Z.lit (by omega))
  rw [Rat.intCast_mul]
  have k2 : (2 : Rat) * p ≠ 0 := qmul_ne (by decide) hp
  apply cancel k2
  have l : x * (q : Rat) * (2 * (p : Rat)) = x * (b * s) := by
    rw [db]
    grind
  have r : (n : Rat) * p * (2 * (p : Rat)) = (n : Rat) * (a * s + c * s) := by
    rw [da, dc]
    grind
  rw [l, r]
  have l2 : x * (b * (s : Rat)) = x * b * s := by grind
  rw [l2, ex]
  grind
theorem dw_0 : Dw 6 (Rat.divInt 3 1, Rat.divInt 4 1, Rat.divInt 5 1) := dw_of (n := 6) (s := 1) (p := 2) (q := 1) (by decide) (by decide) (by decide) (by decide) (by decide) (by decide) (by decide) (by decide) (by decide)
section
variable {P : Program} {w : World} {K : PySem.W.Frag} {mg : Str → Option Value} {base : Heap}
def sp_law_drawn (K : PySem.W.Frag) : Sp := fun vs H Q _ => ∃ (m cl : Addr) (n : Nat), vs = [.ref m] ∧ n ≤ 1000 ∧ MAt H m cl n ∧ ∀ H' t tc N c, But m H H' → MAt H' m cl (n + 120) → SqT K H' t [.int N, .ref tc] → TrT K H' tc c → Dw N c → Q (.ref t) H'
abbrev s__law_drawn : Stmt := topS 41
theorem sc__law_drawn : FnScope ["m", "lap", "p", "q", "area", "n", "s", "sides", "side"] ["m"] (defScope s__law_drawn) := ⟨rfl, rfl, rfl, by decide +kernel, rfl, by decide +kernel, by decide +kernel⟩
theorem k_law_drawn (T : Tx K mg) (D : Df K mg "_law_drawn" s__law_drawn ["m"]) (c_law_class : Kl P w K mg base 1 "_law_class" (sp_law_class K)) (c_law_root : Kl P w K mg base 1 "_law_root" (sp_law_root K)) (c_law_draw : Kl P w K mg base 1 "_law_draw" (sp_law_draw K)) (c_law_cut : Kl P w K mg base 2 "_law_cut" (sp_law_cut K)) : Kl P w K mg base 3 "_law_drawn" (sp_law_drawn K) := by
  have nd := sc__law_drawn.nd
  refine Kl.by_body D sc__law_drawn (fun vs H Q E h => ?_) (fun f cdv A outer s H vs Q E hr h => ?_)
  · obtain ⟨_, _, _, rfl, _⟩ := h
    rfl
  · obtain ⟨m, cl, n, rfl, hn, hM, q⟩ := h
    have hu1 := hu_of hr
    refine ⟨_, (pss_cons (ps_for PassesOwn.never rfl (pi_range1 (by rfl) T.range (pa_cons pe_int pa_nil)) (pg_name (i := 1) nd rfl (by first | exact Or.inl rfl | exact Or.inr rfl)) (pss_cons (ps_par (i := 2) (j := 3) (by rfl) nd rfl rfl (by decide) rfl rfl (pa_cons (pe_op op_add pe_int (pe_k c_law_draw  hr (by decide) (by rfl) (pa_cons (pv 0) (pa_cons pe_int pa_nil)))) (pa_cons (pe_op op_add pe_int (pe_k c_law_draw  hr (by decide) (by rfl) (pa_cons (pv 0) (pa_cons pe_int pa_nil)))) pa_nil)) (by rfl))
      (pss_cons (ps_set (i := 2) nd rfl (by first | exact Or.inl rfl | exact Or.inr rfl) (pe_op op_add (pv 2) (pv 3)))
      (pss_cons (ps_set (i := 4) nd rfl (by first | exact Or.inl rfl | exact Or.inr rfl) (pe_op op_mulW (pe_op op_mulW (pv 2) (pv 3)) (pe_op op_sub (pe_op op_mulW (pv 2) (pv 2)) (pe_op op_mulW (pv 3) (pv 3)))))
      (pss_cons (ps_set (i := 5) nd rfl (by first | exact Or.inl rfl | exact Or.inr rfl) (pe_k c_law_class  hr (by decide) (by rfl) (pa_cons (pv 4) pa_nil)))
      (pss_one (ps_if (pt_cmpR op_le (pv 5) pe_int (nomark _)) (pss_cons (ps_set (i := 6) nd rfl (by first | exact Or.inl rfl | exact Or.inr rfl) (pe_k c_law_root  hr (by decide) (by rfl) (pa_cons (pe_op op_fdivAny (pv 4) (pv 5)) pa_nil)))
      (pss_cons (ps_setLc (i := 7) (own := [("side", 8)]) (g := gName 8) rfl nd rfl rfl (sw_true rfl rfl rfl (by decide +kernel)) (pi_tup (pe_tup (pa_cons (pe_op op_sub (pe_op op_mulW (pv 2) (pv 2)) (pe_op op_mulW (pv 3) (pv 3))) (pa_cons (pe_op op_mulW (pe_op op_mul pe_int (pv 2)) (pv 3)) (pa_cons (pe_op op_add (pe_op op_mulW (pv 2) (pv 2)) (pe_op op_mulW (pv 3) (pv 3))) pa_nil))))) (blkOk_by (N := ["m", "lap", "p", "q", "area", "n", "s", "sides", "side"]) (sc := defScope s__law_drawn) (by decide +kernel)) (fun _ _ _ _ _ => (pg_name (i := 8) nd rfl (by first | exact Or.inl rfl | exact Or.inr rfl))) (fun _ _ _ _ _ => pts_nil) (fun _ _ _ _ _ => (pe_k c_law_cut  hr (by decide) (by rfl) (pa_cons (pv 8) (pa_cons (pv 6) pa_nil)))))
      (pss_one (ps_ret (pe_tup (pa_cons (pv 5) (pa_cons (pe_tup (pa_cons (pe_ix ix_list (pv 7) pe_int (fun _ _ => rfl)) (pa_cons (pe_ix ix_list (pv 7) pe_int (fun _ _ => rfl)) (pa_cons (pe_ix ix_list (pv 7) pe_int (fun _ _ => rfl)) pa_nil)))) pa_nil))))))) pss_nil)))))))
      (pss_one (ps_ret (pe_tup (pa_cons pe_int (pa_cons (pe_tup (pa_cons (pe_tup (pa_cons pe_int (pa_cons pe_int pa_nil))) (pa_cons (pe_tup (pa_cons pe_int (pa_cons pe_int pa_nil))) (pa_cons (pe_tup (pa_cons pe_int (pa_cons pe_int pa_nil))) pa_nil)))) pa_nil)))))), ?_⟩
    refine ⟨60, rfl, by decide, by decide, for_range (lo := 0) (n := 60) (fun i σ H2 => But m H H2 ∧ MAt H2 m cl (n + 2 * i) ∧ ∃ v1 v2 v3 v4 v5 v6 v7 : Option V, σ = [some (.ref m), v1, v2, v3, v4, v5, v6, v7, none]) ⟨But.refl m H, hM, none, none, none, none, none, none, none, rfl⟩ ?_ ?_⟩
    · rintro i σ H2 hi ⟨b2, m2, v1, v2, v3, v4, v5, v6, v7, rfl⟩
      first | refine sigN [some (.ref m), some (.int (0 + (i : Int))), v2, v3, v4, v5, v6, v7, none] (by rfl) ?_ | refine sig [some (.ref m), some (.int (0 + (i : Int))), v2, v3, v4, v5, v6, v7, none] (by rfl) ?_
      refine ⟨_, rfl, m, cl, 12, _, rfl, by decide, by decide, by omega, m2, fun H3 p b3 m3 p0 p1 => ⟨_, _, rfl, rfl, ?_⟩⟩
      refine ⟨_, rfl, m, cl, 11, _, rfl, by decide, by decide, by omega, m3, fun H4 q' b4 m4 q0 q1 => ⟨_, _, rfl, rfl, _, _, rfl, ?_⟩⟩
      first | refine sigN [some (.ref m), some (.int (0 + (i : Int))), some (.int (2 + p)), some (.int (1 + q')), v4, v5, v6, v7, none] (by rfl) ?_ | refine sig [some (.ref m), some (.int (0 + (i : Int))), some (.int (2 + p)), some (.int (1 + q')), v4, v5, v6, v7, none] (by rfl) ?_
      refine ⟨_, rfl, _, rfl, _, _, rfl, rfl, ?_⟩
      first | refine sigN [some (.ref m), some (.int (0 + (i : Int))), some (.int (2 + p + (1 + q'))), some (.int (1 + q')), v4, v5, v6, v7, none] (by rfl) ?_ | refine sig [some (.ref m), some (.int (0 + (i : Int))), some (.int (2 + p + (1 + q'))), some (.int (1 + q')), v4, v5, v6, v7, none] (by rfl) ?_
      obtain ⟨p', hp⟩ : ∃ z : Int, 2 + p + (1 + q') = z := ⟨_, rfl⟩
      obtain ⟨z, hz⟩ : ∃ z : Int, 1 + q' = z := ⟨_, rfl⟩
      rw [hp, hz]
      have pB : B 5 p' := by
        unfold Gd.B
        omega
      have zB : B 4 z := by
        unfold Gd.B
        omega
      have bA := b2.trans (b3.trans b4)
      have mA : MAt H4 m cl (n + 2 * (i + 1)) := m4.up (by omega)
      refine ⟨_, rfl, _, rfl, _, _, rfl, rfl, pB.mulW zB (by decide), _, rfl, _, rfl, _, _, rfl, rfl, pB.mulW pB (by decide), _, rfl, _, rfl, _, _, rfl, rfl, zB.mulW zB (by decide), _, _, rfl, rfl, _, _, rfl, rfl, (pB.mul zB).mulW ((pB.mul pB).sub (zB.mul zB)) (by decide), ?_⟩
      first | refine sigN [some (.ref m), some (.int (0 + (i : Int))), some (.int (p')), some (.int (z)), some (.int (p' * z * (p' * p' - z * z))), v5, v6, v7, none] (by rfl) ?_ | refine sig [some (.ref m), some (.int (0 + (i : Int))), some (.int (p')), some (.int (z)), some (.int (p' * z * (p' * p' - z * z))), v5, v6, v7, none] (by rfl) ?_
      have pz : p' * z ≤ 24 * 11 := Int.mul_le_mul (by omega) (by omega) (by omega) (by decide)
      have pz1 : 1 * 1 ≤ p' * z := Int.mul_le_mul (by omega) (by omega) (by decide) (by omega)
      have pp : p' * p' ≤ 24 * 24 := Int.mul_le_mul (by omega) (by omega) (by omega) (by decide)
      have zz0 := sq0 z
      have dpos : 1 ≤ p' * p' - z * z := by
        have h1 := Int.mul_le_mul (show z + 1 ≤ p' by omega) (show z + 1 ≤ p' by omega) (by omega) (by omega)
        have h2 : (z + 1) * (z + 1) = z * z + 2 * z + 1 := by grind
        omega
      have ar1 : 1 * 1 ≤ p' * z * (p' * p' - z * z) := Int.mul_le_mul pz1 dpos (by decide) (by omega)
      have ar2 : p' * z * (p' * p' - z * z) ≤ 264 * 576 := Int.mul_le_mul (by omega) (by omega) (by omega) (by decide)
      obtain ⟨ar, har⟩ : ∃ ar, p' * z * (p' * p' - z * z) = ar := ⟨_, rfl⟩
      rw [har] at ar1 ar2 ⊢
      have arB : B 40 ar := by
        unfold Gd.B
        omega
      refine ⟨_, rfl, ar, rfl, by omega, arB, fun N s N0 s0 eN => ?_⟩
      first | refine sigN [some (.ref m), some (.int (0 + (i : Int))), some (.int (p')), some (.int (z)), some (.int (ar)), some (.int (N)), v6, v7, none] (by rfl) ?_ | refine sig [some (.ref m), some (.int (0 + (i : Int))), some (.int (p')), some (.int (z)), some (.int (ar)), some (.int (N)), v6, v7, none] (by rfl) ?_
      have sN : s * s ≤ ar := by
        have := Int.mul_le_mul_of_nonneg_right (show 1 ≤ N by omega) (sq0 s)
        omega
      have s1 : s < 1000 := by
        rcases Int.lt_or_le s 1000 with z | z
        · exact z
        · have := Int.mul_le_mul z z (by decide) (by omega)
          omega
      have NB : B 40 N := by
        have := le_mul N0 s0
        unfold Gd.B
        omega
      refine ⟨_, rfl, _, _, rfl, rfl, _, rfl, ?_⟩
      by_cases h100 : N ≤ 100
      · refine iteY (decide_eq_true h100) ?_
        have dv : CDivAny ar N := div_any (m := 40) (by omega) NB (by decide)
        refine ⟨_, rfl, _, rfl, _, _, rfl, rfl, dv, ?_⟩
        have es : ar.fdiv N = s * s := by
          rw [eN, Int.mul_fdiv_cancel_left _ (by omega)]
        refine ⟨s * s, congrArg (fun z => [V.int z]) es, sq0 s, ?_, fun H5 r s5 r0 r1 r2 => ?_⟩
        · have sB : B 10 s := by
            unfold Gd.B
            omega
          exact (sB.mul sB).up (by decide)
        have er : r = s := by
          rcases Int.lt_trichotomy r s with z | z | z
          · have := Int.mul_le_mul (show r + 1 ≤ s by omega) (show r + 1 ≤ s by omega) (by omega) (by omega)
            omega
          · exact z
          · have h1 := Int.mul_le_mul (show s + 1 ≤ r by omega) (show s + 1 ≤ r by omega) (by omega) (by omega)
            have h2 : (s + 1) * (s + 1) = s * s + 2 * s + 1 := by grind
            omega
        subst er
        first | refine sigN [some (.ref m), some (.int (0 + (i : Int))), some (.int (p')), some (.int (z)), some (.int (ar)), some (.int (N)), some (.int (r)), v7, none] (by rfl) ?_ | refine sig [some (.ref m), some (.int (0 + (i : Int))), some (.int (p')), some (.int (z)), some (.int (ar)), some (.int (N)), some (.int (r)), v7, none] (by rfl) ?_
        have dw := dw_of (n := N) (s := r) (p := p') (q := z) N0 h100 s0 s1 (by omega) (by omega) (by omega) (by omega) (har.trans eN)
        refine ⟨_, rfl, _, rfl, _, _, rfl, rfl, pB.mulW pB (by decide), _, rfl, _, rfl, _, _, rfl, rfl, zB.mulW zB (by decide), _, _, rfl, rfl, _, rfl, _, _, rfl, rfl, Or.inl ⟨by decide, by decide⟩, _, rfl, _, _, rfl, rfl, ((B.lit (n := 2) (x := 2) (by decide)).mul pB).mulW zB (by decide), _, rfl, _, rfl, _, _, rfl, rfl, pB.mulW pB (by decide), _, rfl, _, rfl, _, _, rfl, rfl, zB.mulW zB (by decide), _, _, rfl, rfl, (by show 3 ≤ sizeLine; decide), fun tz ntz => ?_⟩
        have s6 := Same.new (H := H5) (p := tz) (o := .tup [.int (p' * p' - z * z), .int (2 * p' * z), .int (p' * p' + z * z)]) ntz
        have gz : upd H5 tz (.tup [.int (p' * p' - z * z), .int (2 * p' * z), .int (p' * p' + z * z)]) tz = some (.tup [.int (p' * p' - z * z), .int (2 * p' * z), .int (p' * p' + z * z)]) := upd_same
        generalize upd H5 tz (.tup [.int (p' * p' - z * z), .int (2 * p' * z), .int (p' * p' + z * z)]) = H6 at s6 gz ⊢
        refine ⟨tz, rfl, ⟨_, tup_of gz⟩, fun D hD => ?_⟩
        refine lc_tup (K := K) (a := tz) (xs := [.int (p' * p' - z * z), .int (2 * p' * z), .int (p' * p' + z * z)]) (fun i H7 => Same H6 H7 ∧ FqD H7 D [Rat.divInt (p' * p' - z * z) r, Rat.divInt (2 * p' * z) r, Rat.divInt (p' * p' + z * z) r] i) ⟨Same.new hD, FqD.new⟩ (fun i H7 _ y => tup_of (y.1 _ _ gz)) (fun i v H7 hi y => ?_) (fun H7 y => ?_)
        · obtain ⟨s7, hd⟩ := y
          obtain ⟨k, rfl, hk, kB, hi3⟩ : ∃ k : Int, v = .int k ∧ [Rat.divInt (p' * p' - z * z) r, Rat.divInt (2 * p' * z) r, Rat.divInt (p' * p' + z * z) r][i]? = some (Rat.divInt k r) ∧ B 100 k ∧ i < 3 := by
            rcases (show i = 0 ∨ i = 1 ∨ i = 2 ∨ 3 ≤ i by omega) with rfl | rfl | rfl | y
            · exact ⟨_, (Option.some.inj hi).symm, rfl, ((pB.mul pB).sub (zB.mul zB)).up (by decide), by decide⟩
            · exact ⟨_, (Option.some.inj hi).symm, rfl, (((B.lit (n := 2) (x := 2) (by decide)).mul pB).mul zB).up (by decide), by decide⟩
            · exact ⟨_, (Option.some.inj hi).symm, rfl, ((pB.mul pB).add (zB.mul zB)).up (by decide), by decide⟩
            · rw [List.getElem?_eq_none (by simpa using y)] at hi
              cases hi
          have rB : B 10 r := by
            unfold Gd.B
            omega
          refine ⟨rfl, _, rfl, _, rfl, k, r, rfl, by omega, kB.up (by decide), rB.up (by decide), fun t nt => ?_⟩
          have s8 := Same.new (H := H7) (p := t) (o := .tup (fq (Rat.divInt k r))) nt
          have gt : upd H7 t (.tup (fq (Rat.divInt k r))) t = some (.tup (fq (Rat.divInt k r))) := upd_same
          generalize upd H7 t (.tup (fq (Rat.divInt k r))) = H8 at s8 gt ⊢
          obtain ⟨acc, g1, g2, g3⟩ := hd.push s8 hk gt (by omega)
          exact ⟨acc, g1, g2, Same.put (s7.trans s8) hD, g3⟩
        · obtain ⟨s7, hd⟩ := y
          obtain ⟨x1, x2, x3, gD, g1, g2, g3⟩ := hd.three
          first | refine sigN [some (.ref m), some (.int (0 + (i : Int))), some (.int (p')), some (.int (z)), some (.int (ar)), some (.int (N)), some (.int (r)), some (.ref D), none] (by rfl) ?_ | refine sig [some (.ref m), some (.int (0 + (i : Int))), some (.int (p')), some (.int (z)), some (.int (ar)), some (.int (N)), some (.int (r)), some (.ref D), none] (by rfl) ?_
          refine ⟨_, rfl, _, rfl, D, _, 0, .ref x1, rfl, rfl, lst_of gD, rfl, _, rfl, D, _, 1, .ref x2, rfl, rfl, lst_of gD, rfl, _, rfl, D, _, 2, .ref x3, rfl, rfl, lst_of gD, rfl, (by show 3 ≤ sizeLine; decide), fun tc ntc => ?_⟩
          have s8 := Same.new (H := H7) (p := tc) (o := .tup [.ref x1, .ref x2, .ref x3]) ntc
          have gc : upd H7 tc (.tup [.ref x1, .ref x2, .ref x3]) tc = some (.tup [.ref x1, .ref x2, .ref x3]) := upd_same
          generalize upd H7 tc (.tup [.ref x1, .ref x2, .ref x3]) = H8 at s8 gc ⊢
          refine ⟨(by show 2 ≤ sizeLine; decide), fun tr ntr => ?_⟩
          have s9 := Same.new (H := H8) (p := tr) (o := .tup [.int N, .ref tc]) ntr
          have sA := s5.trans (s6.trans (s7.trans (s8.trans s9)))
          exact q _ tr tc N _ (bA.trans (But.of sA)) ((mA.same sA).up (by omega)) (tup_of upd_same) ⟨x1, x2, x3, tup_of (s9 _ _ gc), tup_of ((s8.trans s9) _ _ g1), tup_of ((s8.trans s9) _ _ g2), tup_of ((s8.trans s9) _ _ g3)⟩ dw
      · refine iteN (by simpa using h100) ?_
        exact ⟨bA, mA, _, _, _, _, _, _, _, rfl⟩
    · rintro σ H2 ⟨b2, m2, v1, v2, v3, v4, v5, v6, v7, rfl⟩
      refine ⟨(by show 2 ≤ sizeLine; decide), fun p1 n1 => ?_⟩
      have s7 := Same.new (H := H2) (p := p1) (o := .tup [.int 3, .int 1]) n1
      have g7 : upd H2 p1 (.tup [.int 3, .int 1]) p1 = some (.tup [.int 3, .int 1]) := upd_same
      generalize upd H2 p1 (.tup [.int 3, .int 1]) = H7 at s7 g7 ⊢
      refine ⟨(by show 2 ≤ sizeLine; decide), fun p2 n2 => ?_⟩
      have s8 := Same.new (H := H7) (p := p2) (o := .tup [.int 4, .int 1]) n2
      have g8 : upd H7 p2 (.tup [.int 4, .int 1]) p2 = some (.tup [.int 4, .int 1]) := upd_same
      generalize upd H7 p2 (.tup [.int 4, .int 1]) = H8 at s8 g8 ⊢
      refine ⟨(by show 2 ≤ sizeLine; decide), fun p3 n3 => ?_⟩
      have s9 := Same.new (H := H8) (p := p3) (o := .tup [.int 5, .int 1]) n3
      have g9 : upd H8 p3 (.tup [.int 5, .int 1]) p3 = some (.tup [.int 5, .int 1]) := upd_same
      generalize upd H8 p3 (.tup [.int 5, .int 1]) = H9 at s9 g9 ⊢
      refine ⟨(by show 3 ≤ sizeLine; decide), fun tc ntc => ?_⟩
      have s10 := Same.new (H := H9) (p := tc) (o := .tup [.ref p1, .ref p2, .ref p3]) ntc
      have g10 : upd H9 tc (.tup [.ref p1, .ref p2, .ref p3]) tc = some (.tup [.ref p1, .ref p2, .ref p3]) := upd_same
      generalize upd H9 tc (.tup [.ref p1, .ref p2, .ref p3]) = H10 at s10 g10 ⊢
      refine ⟨(by show 2 ≤ sizeLine; decide), fun r nr => ?_⟩
      have s11 := Same.new (H := H10) (p := r) (o := .tup [.int 6, .ref tc]) nr
      have sA := s7.trans (s8.trans (s9.trans (s10.trans s11)))
      have e1 : fq (Rat.divInt 3 1) = [.int 3, .int 1] := by decide +kernel
      have e2 : fq (Rat.divInt 4 1) = [.int 4, .int 1] := by decide +kernel
      have e3 : fq (Rat.divInt 5 1) = [.int 5, .int 1] := by decide +kernel
      rw [← e1] at g7
      rw [← e2] at g8
      rw [← e3] at g9
      exact q _ r tc 6 _ (b2.trans (But.of sA)) ((m2.same sA).up (by omega)) (tup_of upd_same) ⟨p1, p2, p3, tup_of (s11 _ _ g10), tup_of ((s8.trans (s9.trans (s10.trans s11))) _ _ g7), tup_of ((s9.trans (s10.trans s11)) _ _ g8), tup_of ((s10.trans s11) _ _ g9)⟩ dw_0
end
end K52
set_option Elab.async false
set_option linter.all false
set_option maxRecDepth 100000
set_option maxHeartbeats 4000000
namespace K52
open PySem PySem.Spec PyProof.Rows L2 Gd QM EcM EcP
theorem tyx_tup {K : PySem.W.Frag} {H : Hp} {a : Addr} {xs : List V} (h : SqT K H a xs) : TyX K H (.ref a) (.type "tuple") := by
  rcases h with (h | ⟨o, h⟩) | ⟨o, its, n, h, hc, hd, hs, hv⟩
  · exact .base (.tup h)
  · exact .fTuple h
  · exact .kTuple h hc
theorem call_isiK {X : Cx} {K : PySem.W.Frag} (h : X.K = K) : CallR X (.builtin "isinstance") (rIsi K) := h ▸ call_isi
/-- a side as it stands -/
inductive Sd (K : PySem.W.Frag) (H : Hp) : V → Option (Int × Int) → Prop
  | int (i : Int) : Sd K H (.int i) none
  | bl (p : Addr) (b : Bool) (d : Int) : SqT K H p [.bl b, .int d] → Sd K H (.ref p) none
  | pr (p : Addr) (n d : Int) : SqT K H p [.int n, .int d] → B 900 n → B 900 d → Sd K H (.ref p) (some (n, d))
theorem Sd.same {K : PySem.W.Frag} {H H' : Hp} {v : V} {o : Option (Int × Int)} (s : Same H H') (h : Sd K H v o) : Sd K H' v o := by
  cases h with
  | int i => exact .int i
  | bl p b d h => exact .bl p b d (Same.tup s h)
  | pr p n d h h1 h2 => exact .pr p n d (Same.tup s h) h1 h2
def isFr : Option (Int × Int) → Bool
  | none => false
  | some (n, d) => decide (1 ≤ d) && decide (Nat.gcd n.natAbs d.natAbs = 1)
section
variable {P : Program} {w : World} {K : PySem.W.Frag} {mg : Str → Option Value} {base : Heap}
def sp_is_whole (K : PySem.W.Frag) : Sp := fun vs H Q _ => ∃ (x : V) (t : String), vs = [x] ∧ TyB K H x t ∧ Q (.bl (decide (t = "int"))) H
abbrev s_is_whole : Stmt := topS 2
theorem sc_is_whole : FnScope ["value"] ["value"] (defScope s_is_whole) := ⟨rfl, rfl, rfl, by decide +kernel, rfl, by decide +kernel, by decide +kernel⟩
theorem k_is_whole (T : Tx K mg) (D : Df K mg "is_whole" s_is_whole ["value"])  : Kl P w K mg base 1 "is_whole" (sp_is_whole K) := by
  have nd := sc_is_whole.nd
  refine Kl.by_body D sc_is_whole (fun vs H Q E h => ?_) (fun f cdv A outer s H vs Q E hr h => ?_)
  · obtain ⟨_, _, rfl, _⟩ := h
    rfl
  · obtain ⟨x, t, rfl, hx, q⟩ := h
    have hu1 := hu_of hr
    refine ⟨_, (pss_one (ps_ret (pe_cmpR op_isTy (pe_callTy call_type1 (by rfl) T.type (by decide +kernel) (pa_cons (pv 0) pa_nil)) (pe_bltn (v := .ty "int") (by rfl) T.int (by decide +kernel) rfl) (nomark _)))), ?_⟩
    exact ⟨x, rfl, x, t, rfl, hx, t, "int", rfl, rfl, q⟩
/-- what is asked of a value as a tuple of so many -/
inductive Td (K : PySem.W.Frag) (H : Hp) (n : Int) : V → Bool → Prop
  | int (i : Int) : Td K H n (.int i) false
  | non : Td K H n .non false
  | is (p : Addr) (xs : List V) : SqT K H p xs → Td K H n (.ref p) (decide ((xs.length : Int) = n))
def sp_is_tuple (K : PySem.W.Frag) : Sp := fun vs H Q _ => ∃ (v : V) (n : Int) (b : Bool), vs = [v, .int n] ∧ Td K H n v b ∧ Q (.bl b) H
abbrev s_is_tuple : Stmt := topS 3
theorem sc_is_tuple : FnScope ["value", "many"] ["value", "many"] (defScope s_is_tuple) := ⟨rfl, rfl, rfl, by decide +kernel, rfl, by decide +kernel, by decide +kernel⟩
theorem k_is_tuple (T : Tx K mg) (D : Df K mg "is_tuple" s_is_tuple ["value", "many"])  : Kl P w K mg base 1 "is_tuple" (sp_is_tuple K) := by
  have nd := sc_is_tuple.nd
  refine Kl.by_body D sc_is_tuple (fun vs H Q E h => ?_) (fun f cdv A outer s H vs Q E hr h => ?_)
  · obtain ⟨_, _, _, rfl, _⟩ := h
    rfl
  · obtain ⟨v, n, b, rfl, hk, q⟩ := h
    have hu1 := hu_of hr
    refine ⟨_, (pss_one (ps_ret (pe_and (pe_callB call_isi (by rfl) T.isinstance (by decide +kernel) (pa_cons (pv 0) (pa_cons (pe_bltn (v := .ty "tuple") (by rfl) T.tuple (by decide +kernel) rfl) pa_nil))) (pe_one (pe_cmpR op_eq (pe_callB call_len_seq (by rfl) T.len (by decide +kernel) (pa_cons (pv 0) pa_nil)) (pv 1) (nomark _)))))), ?_⟩
    cases hk with
    | int i =>
      refine ⟨.int i, rfl, .int i, .ty "tuple", _, .type "tuple", false, rfl, .ty _, .base (.int i), kit_ty (by decide +kernel), _, rfl, iteF ?_⟩
      exact q
    | non =>
      refine ⟨.non, rfl, .non, .ty "tuple", _, .type "tuple", false, rfl, .ty _, .base .non, kit_ty (by decide +kernel), _, rfl, iteF ?_⟩
      exact q
    | is p xs hx =>
      refine ⟨.ref p, rfl, .ref p, .ty "tuple", .type "tuple", .type "tuple", true, rfl, .ty _, tyx_tup hx, kit_ty (by decide +kernel), _, rfl, iteT ?_⟩
      refine ⟨.ref p, rfl, p, xs, rfl, .inr hx, _, rfl, rfl, ?_⟩
      rw [dec_int]
      exact q
def sp_is_fraction (K : PySem.W.Frag) : Sp := fun vs H Q _ => ∃ (v : V) (o : Option (Int × Int)), vs = [v] ∧ Sd K H v o ∧ Q (.bl (isFr o)) H
abbrev s_is_fraction : Stmt := topS 10
theorem sc_is_fraction : FnScope ["value", "n", "d"] ["value"] (defScope s_is_fraction) := ⟨rfl, rfl, rfl, by decide +kernel, rfl, by decide +kernel, by decide +kernel⟩
theorem k_is_fraction (T : Tx K mg) (D : Df K mg "is_fraction" s_is_fraction ["value"]) (c_is_tuple : Kl P w K mg base 1 "is_tuple" (sp_is_tuple K)) (c_is_whole : Kl P w K mg base 1 "is_whole" (sp_is_whole K)) : Kl P w K mg base 2 "is_fraction" (sp_is_fraction K) := by
  have nd := sc_is_fraction.nd
  refine Kl.by_body D sc_is_fraction (fun vs H Q E h => ?_) (fun f cdv A outer s H vs Q E hr h => ?_)
  · obtain ⟨_, _, rfl, _⟩ := h
    rfl
  · obtain ⟨v, o, rfl, hs, q⟩ := h
    have hu1 := hu_of hr
    refine ⟨_, (pss_cons (ps_if (pt_not (pt_val (pe_k c_is_tuple  hr (by decide) (by rfl) (pa_cons (pv 0) (pa_cons pe_int pa_nil))))) (pss_one (ps_ret pe_bl)) pss_nil)
      (pss_cons (ps_asg (pv 0) (pg_tup rfl (pgs_cons (pg_name (i := 1) nd rfl (by first | exact Or.inl rfl | exact Or.inr rfl)) (pgs_cons (pg_name (i := 2) nd rfl (by first | exact Or.inl rfl | exact Or.inr rfl)) pgs_nil))))
      (pss_one (ps_ret (pe_and (pe_k c_is_whole  hr (by decide) (by rfl) (pa_cons (pv 1) pa_nil)) (pe_and (pe_k c_is_whole  hr (by decide) (by rfl) (pa_cons (pv 2) pa_nil)) (pe_and (pe_cmpR op_ge (pv 2) pe_int (nomark _)) (pe_one (pe_cmpR op_eq (pe_callBfun cr_gcd (by rfl) T.gcd (pa_cons (pv 1) (pa_cons (pv 2) pa_nil))) pe_int (nomark _)))))))))), ?_⟩
    cases hs with
    | int i =>
      refine ⟨_, rfl, .int i, 2, false, rfl, .int i, ?_⟩
      refine ⟨_, rfl, iteT ?_⟩
      exact q
    | bl p b d h =>
      refine ⟨_, rfl, .ref p, 2, true, rfl, .is p _ h, ?_⟩
      refine ⟨_, rfl, iteF ?_⟩
      refine ⟨_, rfl, p, _, rfl, h, rfl, _, _, rfl, _, _, rfl, rfl, ?_⟩
      refine ⟨_, rfl, .bl b, "bool", rfl, .bl b, _, rfl, iteN (by decide) ?_⟩
      exact q
    | pr p n d h hn hd =>
      refine ⟨_, rfl, .ref p, 2, true, rfl, .is p _ h, ?_⟩
      refine ⟨_, rfl, iteF ?_⟩
      refine ⟨_, rfl, p, _, rfl, h, rfl, _, _, rfl, _, _, rfl, rfl, ?_⟩
      refine ⟨_, rfl, .int n, "int", rfl, .int n, _, rfl, iteY (by decide) ?_⟩
      refine ⟨_, rfl, .int d, "int", rfl, .int d, _, rfl, iteY (by decide) ?_⟩
      refine ⟨_, rfl, _, _, rfl, rfl, _, rfl, ?_⟩
      by_cases d1 : 1 ≤ d
      · refine iteY (decide_eq_true d1) ?_
        refine ⟨_, rfl, _, rfl, n, d, rfl, rfl, ?_⟩
        rw [dec_int]
        have e : isFr (some (n, d)) = decide (((Nat.gcd n.natAbs d.natAbs : Nat) : Int) = 1) := by
          show (decide (1 ≤ d) && decide (Nat.gcd n.natAbs d.natAbs = 1)) = _
          rw [decide_eq_true d1, Bool.true_and, Bool.eq_iff_iff, decide_eq_true_iff, decide_eq_true_iff]
          omega
        rw [e] at q
        exact q
      · refine iteN (by simpa using d1) ?_
        have e : isFr (some (n, d)) = false := by
          show (decide (1 ≤ d) && _) = false
          rw [decide_eq_false d1]
          rfl
        rw [e] at q
        exact q
def sp_law_is_fraction (K : PySem.W.Frag) : Sp := fun vs H Q _ => ∃ (v : V) (o : Option (Int × Int)), vs = [v] ∧ Sd K H v o ∧ ∀ H', Same H H' → Q (.bl (isFr o)) H'
abbrev s__law_is_fraction : Stmt := topS 44
theorem sc__law_is_fraction : FnScope ["value", "part"] ["value"] (defScope s__law_is_fraction) := ⟨rfl, rfl, rfl, by decide +kernel, rfl, by decide +kernel, by decide +kernel⟩
theorem k_law_is_fraction (T : Tx K mg) (D : Df K mg "_law_is_fraction" s__law_is_fraction ["value"]) (c_law_common : Kl P w K mg base 1 "_law_common" (sp_law_common K)) : Kl P w K mg base 2 "_law_is_fraction" (sp_law_is_fraction K) := by
  have nd := sc__law_is_fraction.nd
  refine Kl.by_body D sc__law_is_fraction (fun vs H Q E h => ?_) (fun f cdv A outer s H vs Q E hr h => ?_)
  · obtain ⟨_, _, rfl, _⟩ := h
    rfl
  · obtain ⟨v, o, rfl, hs, q⟩ := h
    have hu1 := hu_of hr
    refine ⟨_, (pss_cons (ps_if (PW.pt (pw_or (pt_not (pt_val (pe_callB call_isi (by rfl) T.isinstance (by decide +kernel) (pa_cons (pv 0) (pa_cons (pe_bltn (v := .ty "tuple") (by rfl) T.tuple (by decide +kernel) rfl) pa_nil))))) (pw_or1 (pt_cmpR op_ne (pe_callB call_len_seq (by rfl) T.len (by decide +kernel) (pa_cons (pv 0) pa_nil)) pe_int (nomark _))))) (pss_one (ps_ret pe_bl)) pss_nil)
      (pss_cons (ps_if (pt_cmpR (op_neD hr.units) (pe_lc (own := [("part", 1)]) (g := gName 1) rfl nd (pi_tup (pv 0)) (blkOk_by (N := ["value", "part"]) (sc := defScope s__law_is_fraction) (by decide +kernel)) (fun _ _ _ _ _ => (pg_name (i := 1) nd rfl (by first | exact Or.inl rfl | exact Or.inr rfl))) (fun _ _ _ _ _ => (pts_one (PW.pt (pw_or (pt_not (pt_val (pe_callB (call_isiK (K:=K) rfl) (by rfl) T.isinstance (by decide +kernel) (pa_cons (pv 1) (pa_cons (pe_bltn (v := .ty "int") (by rfl) T.int (by decide +kernel) rfl) pa_nil))))) (pw_or1 (pt_val (pe_callB (call_isiK (K:=K) rfl) (by rfl) T.isinstance (by decide +kernel) (pa_cons (pv 1) (pa_cons (pe_bltn (v := .ty "bool") (by rfl) T.bool (by decide +kernel) rfl) pa_nil))))))))) (fun _ _ _ _ _ => (pv 1))) (pe_lst pa_nil) (nomark _)) (pss_one (ps_ret pe_bl)) pss_nil)
      (pss_one (ps_ret (pe_and (pe_cmpR op_gt (pe_ix ix_tup (pv 0) pe_int (fun _ _ => rfl)) pe_int (nomark _)) (pe_one (pe_cmpR op_eq (pe_k c_law_common  hr (by decide) (by rfl) (pa_cons (pe_ix ix_tup (pv 0) pe_int (fun _ _ => rfl)) (pa_cons (pe_ix ix_tup (pv 0) pe_int (fun _ _ => rfl)) pa_nil))) pe_int (nomark _)))))))), ?_⟩
    cases hs with
    | int i =>
      refine ⟨_, rfl, .int i, .ty "tuple", _, .type "tuple", false, rfl, .ty _, .base (.int i), kit_ty (by decide +kernel), ?_⟩
      refine ⟨_, rfl, iteT ?_⟩
      exact q _ (Same.refl _)
    | bl p b d h =>
      refine ⟨_, rfl, .ref p, .ty "tuple", .type "tuple", .type "tuple", true, rfl, .ty _, tyx_tup h, kit_ty (by decide +kernel), ?_⟩
      refine ⟨_, rfl, iteF ?_⟩
      refine ⟨_, rfl, p, _, rfl, .inr h, rfl, _, rfl, iteN (by simp) ?_⟩
      refine ⟨_, rfl, p, rfl, ⟨_, h⟩, fun D hD => ?_⟩
      refine lc_tup (K := K) (a := p) (xs := [.bl b, .int d]) (fun i H4 => Same H H4 ∧ H4 D = some (.lst (if i = 0 then [] else [.bl b]))) ⟨Same.new hD, upd_same⟩ (fun i H4 _ z => Same.tup z.1 h) (fun i v H4 hi z => ?_) (fun H4 z => ?_)
      · obtain ⟨s4, hd⟩ := z
        rcases (show i = 0 ∨ i = 1 ∨ 2 ≤ i by omega) with rfl | rfl | z
        · obtain rfl := Option.some.inj hi
          refine ⟨rfl, _, rfl, .bl b, .ty "int", .type "bool", .type "int", true, rfl, .ty _, .base (.bl b), kit_ty (by decide +kernel), _, rfl, iteF ?_⟩
          refine ⟨_, rfl, .bl b, .ty "bool", .type "bool", .type "bool", true, rfl, .ty _, .base (.bl b), kit_ty (by decide +kernel), ?_⟩
          refine ⟨_, rfl, iteT ?_⟩
          exact ⟨_, rfl, [], hd, by decide, Same.put s4 hD, upd_same⟩
        · obtain rfl := Option.some.inj hi
          refine ⟨rfl, _, rfl, .int d, .ty "int", .type "int", .type "int", true, rfl, .ty _, .base (.int d), kit_ty (by decide +kernel), _, rfl, iteF ?_⟩
          refine ⟨_, rfl, .int d, .ty "bool", .type "int", .type "bool", false, rfl, .ty _, .base (.int d), kit_ty (by decide +kernel), ?_⟩
          refine ⟨_, rfl, iteF ?_⟩
          exact ⟨s4, hd⟩
        · rw [List.getElem?_eq_none (by simpa using z)] at hi
          cases hi
      · obtain ⟨s4, hd⟩ := z
        refine ⟨(by show 0 ≤ sizeLine; decide), fun e0 ne0 => ?_⟩
        have s5 := Same.new (H := H4) (p := e0) (o := .lst []) ne0
        have g5 : upd H4 e0 (.lst []) e0 = some (.lst []) := upd_same
        generalize upd H4 e0 (.lst []) = H5 at s5 g5 ⊢
        refine ⟨.list [.bool b], .list [], .lst (lst_of (s5 _ _ hd)) (.cons (.bl b) .nil), .lst (lst_of g5) .nil, rfl, rfl, _, rfl, iteT ?_⟩
        exact q _ (s4.trans s5)
    | pr p n d h hn hd =>
      refine ⟨_, rfl, .ref p, .ty "tuple", .type "tuple", .type "tuple", true, rfl, .ty _, tyx_tup h, kit_ty (by decide +kernel), ?_⟩
      refine ⟨_, rfl, iteF ?_⟩
      refine ⟨_, rfl, p, _, rfl, .inr h, rfl, _, rfl, iteN (by simp) ?_⟩
      refine ⟨_, rfl, p, rfl, ⟨_, h⟩, fun D hD => ?_⟩
      refine lc_tup (K := K) (a := p) (xs := [.int n, .int d]) (fun i H4 => Same H H4 ∧ H4 D = some (.lst [])) ⟨Same.new hD, upd_same⟩ (fun i H4 _ z => Same.tup z.1 h) (fun i v H4 hi z => ?_) (fun H4 z => ?_)
      · obtain ⟨s4, hd4⟩ := z
        obtain ⟨k, rfl⟩ : ∃ k : Int, v = .int k := by
          rcases (show i = 0 ∨ i = 1 ∨ 2 ≤ i by omega) with rfl | rfl | z
          · exact ⟨n, (Option.some.inj hi).symm⟩
          · exact ⟨d, (Option.some.inj hi).symm⟩
          · rw [List.getElem?_eq_none (by simpa using z)] at hi
            cases hi
        refine ⟨rfl, _, rfl, .int k, .ty "int", .type "int", .type "int", true, rfl, .ty _, .base (.int k), kit_ty (by decide +kernel), _, rfl, iteF ?_⟩
        refine ⟨_, rfl, .int k, .ty "bool", .type "int", .type "bool", false, rfl, .ty _, .base (.int k), kit_ty (by decide +kernel), ?_⟩
        refine ⟨_, rfl, iteF ?_⟩
        exact ⟨s4, hd4⟩
      · obtain ⟨s4, hd4⟩ := z
        refine ⟨(by show 0 ≤ sizeLine; decide), fun e0 ne0 => ?_⟩
        have s5 := Same.new (H := H4) (p := e0) (o := .lst []) ne0
        have g5 : upd H4 e0 (.lst []) e0 = some (.lst []) := upd_same
        generalize upd H4 e0 (.lst []) = H5 at s5 g5 ⊢
        have s05 := s4.trans s5
        have h5 := Same.tup s05 h
        refine ⟨.list [], .list [], .lst (lst_of (s5 _ _ hd4)) .nil, .lst (lst_of g5) .nil, rfl, rfl, _, rfl, iteF ?_⟩
        refine ⟨_, rfl, p, _, 1, .int d, rfl, rfl, h5, rfl, _, _, rfl, rfl, _, rfl, ?_⟩
        have ef : isFr (some (n, d)) = (decide (1 ≤ d) && decide (Nat.gcd n.natAbs d.natAbs = 1)) := rfl
        rw [ef] at q
        by_cases d1 : 0 < d
        · refine iteY (decide_eq_true d1) ?_
          refine ⟨_, rfl, p, _, 0, .int n, rfl, rfl, h5, rfl, _, rfl, p, _, 1, .int d, rfl, rfl, h5, rfl, n, d, rfl, hn.up (by decide), hd.up (by decide), rfl, ?_⟩
          rw [dec_int]
          have e : (decide (1 ≤ d) && decide (Nat.gcd n.natAbs d.natAbs = 1)) = decide (((Nat.gcd n.natAbs d.natAbs : Nat) : Int) = 1) := by
            rw [decide_eq_true (show 1 ≤ d by omega), Bool.true_and, Bool.eq_iff_iff, decide_eq_true_iff, decide_eq_true_iff]
            omega
          rw [e] at q
          exact q _ s05
        · refine iteN (by simpa using d1) ?_
          rw [decide_eq_false (show ¬ 1 ≤ d by omega), Bool.false_and] at q
          exact q _ s05
end
end K52
set_option Elab.async false
set_option linter.all false
set_option maxRecDepth 100000
set_option maxHeartbeats 4000000
namespace K52
open PySem PySem.Spec PyProof.Rows L2 Gd QM EcM EcP
local macro_rules | `(tactic| walk_at "mm") => `(tactic| (repeat (first | exact List.mem_cons_self | apply List.mem_cons_of_mem)))
/-! ### values that are asked whether they are triangles -/
def qv : Option (Int × Int) → Rat
  | some (n, d) => Rat.divInt n d
  | none => 0
def nm : Option (Int × Int) → Int
  | some (n, _) => n
  | none => 0
def ps (o : Option (Int × Int)) : Bool := isFr o && decide (0 < nm o)
def isT (n : Int) : Option (List (Option (Int × Int))) → Bool
  | some [a, b, c] => (ps a && (ps b && ps c)) && (decide (qv a * qv a + qv b * qv b = qv c * qv c) && decide (qv a * qv b = ((2 * n : Int) : Rat)))
  | _ => false
theorem fr_fq {n d : Int} (h : isFr (some (n, d)) = true) : d ≠ 0 ∧ [V.int n, V.int d] = fq (Rat.divInt n d) := by
  have h2 : (decide (1 ≤ d) && decide (Nat.gcd n.natAbs d.natAbs = 1)) = true := h
  rw [Bool.and_eq_true, decide_eq_true_iff, decide_eq_true_iff] at h2
  have d0 : d ≠ 0 := by omega
  refine ⟨d0, ?_⟩
  have e := fq_div (n := n) d0
  have es : sg n d = 1 := by
    unfold sg
    rw [if_neg (by omega), h2.2]
    rfl
  rw [es, Int.fdiv_one, Int.fdiv_one] at e
  exact e
def SdL (K : PySem.W.Frag) (H : Hp) (xs : List V) (os : List (Option (Int × Int))) : Prop := xs.length = os.length ∧ ∀ (i : Nat) (x : V), xs[i]? = some x → ∃ o, os[i]? = some o ∧ Sd K H x o
theorem SdL.same {K : PySem.W.Frag} {H H' : Hp} {xs : List V} {os : List (Option (Int × Int))} (s : Same H H') (h : SdL K H xs os) : SdL K H' xs os := ⟨h.1, fun i x e => by
  obtain ⟨o, h1, h2⟩ := h.2 i x e
  exact ⟨o, h1, h2.same s⟩⟩
inductive Vl (K : PySem.W.Frag) (H : Hp) : V → Option (List (Option (Int × Int))) → Prop
  | int (i : Int) : Vl K H (.int i) none
  | non : Vl K H .non none
  | tup (p : Addr) (xs : List V) (os : List (Option (Int × Int))) : SqT K H p xs → SdL K H xs os → xs.length ≤ 10 → Vl K H (.ref p) (some os)
theorem isT_len {n : Int} {os : List (Option (Int × Int))} (h : (os.length : Int) ≠ 3) : isT n (some os) = false := by
  match os, h with
  | [], _ => rfl
  | [_], _ => rfl
  | [_, _], _ => rfl
  | [_, _, _], h => exact absurd rfl h
  | _ :: _ :: _ :: _ :: _, _ => rfl
theorem side_at {K : PySem.W.Frag} {H : Hp} {x : V} {o : Option (Int × Int)} (h : Sd K H x o) (f : ps o = true) : ∃ p, x = .ref p ∧ SqT K H p (fq (qv o)) ∧ RB 901 (qv o) := by
  have f1 : isFr o = true := by
    unfold ps at f
    rw [Bool.and_eq_true] at f
    exact f.1
  cases h with
  | int i => cases f1
  | bl p b d h => cases f1
  | pr p n d h hn hd =>
    obtain ⟨d0, e⟩ := fr_fq f1
    refine ⟨p, rfl, ?_, RB.of d0 (hn.up (by decide)) (hd.up (by decide))⟩
    show SqT K H p (fq (Rat.divInt n d))
    rw [← e]
    exact h
theorem len3 {α : Type} {l : List α} (h : l.length = 3) : ∃ a b c, l = [a, b, c] := by
  match l, h with
  | [a, b, c], _ => exact ⟨a, b, c, rfl⟩
section
variable {P : Program} {w : World} {K : PySem.W.Frag} {mg : Str → Option Value} {base : Heap}
def sp_is_triangle (K : PySem.W.Frag) : Sp := fun vs H Q _ => ∃ (n : Int) (v : V) (o : Option (List (Option (Int × Int)))), vs = [.int n, v] ∧ B 8 n ∧ Vl K H v o ∧ ∀ H', Same H H' → Q (.bl (isT n o)) H'
abbrev s_is_triangle : Stmt := topS 17
theorem sc_is_triangle : FnScope ["n", "value", "side", "a", "b", "c"] ["n", "value"] (defScope s_is_triangle) := ⟨rfl, rfl, rfl, by decide +kernel, rfl, by decide +kernel, by decide +kernel⟩
theorem k_is_triangle (T : Tx K mg) (D : Df K mg "is_triangle" s_is_triangle ["n", "value"]) (c_is_tuple : Kl P w K mg base 1 "is_tuple" (sp_is_tuple K)) (c_plus : Kl P w K mg base 2 "plus" (sp_plus K)) (c_times : Kl P w K mg base 2 "times" (sp_times K)) (c_is_fraction : Kl P w K mg base 2 "is_fraction" (sp_is_fraction K)) : Kl P w K mg base 3 "is_triangle" (sp_is_triangle K) := by
  have nd := sc_is_triangle.nd
  refine Kl.by_body D sc_is_triangle (fun vs H Q E h => ?_) (fun f cdv A outer s H vs Q E hr h => ?_)
  · obtain ⟨_, _, _, rfl, _⟩ := h
    rfl
  · obtain ⟨n, v, o, rfl, hn, hv, q⟩ := h
    have hu1 := hu_of hr
    refine ⟨_, (pss_cons (ps_if (PW.pt (pw_or (pt_not (pt_val (pe_k c_is_tuple  hr (by decide) (by rfl) (pa_cons (pv 1) (pa_cons pe_int pa_nil))))) (pw_or1 (pt_not (pt_val (pe_callB (cr_all rfl) (by rfl) T.all (by decide +kernel) (pa_cons (pe_lc (own := [("side", 2)]) (g := gName 2) rfl nd (pi_tup (pv 1)) (blkOk_by (N := ["n", "value", "side", "a", "b", "c"]) (sc := defScope s_is_triangle) (by decide +kernel)) (fun _ _ _ _ _ => (pg_name (i := 2) nd rfl (by first | exact Or.inl rfl | exact Or.inr rfl))) (fun _ _ _ _ _ => pts_nil) (fun _ _ _ _ _ => (pe_and (pe_k c_is_fraction  hr (by decide) (by rfl) (pa_cons (pv 2) pa_nil)) (pe_one (pe_cmpR op_gt (pe_ix (ix_tupK (K := K) rfl) (pv 2) pe_int (fun _ _ => rfl)) pe_int (nomark _)))))) pa_nil))))))) (pss_one (ps_ret pe_bl)) pss_nil)
      (pss_cons (ps_asg (pv 1) (pg_tup rfl (pgs_cons (pg_name (i := 3) nd rfl (by first | exact Or.inl rfl | exact Or.inr rfl)) (pgs_cons (pg_name (i := 4) nd rfl (by first | exact Or.inl rfl | exact Or.inr rfl)) (pgs_cons (pg_name (i := 5) nd rfl (by first | exact Or.inl rfl | exact Or.inr rfl)) pgs_nil)))))
      (pss_one (ps_ret (pe_and (pe_cmpR (op_eqD hr.units) (pe_k c_plus  hr (by decide) (by rfl) (pa_cons (pe_k c_times  hr (by decide) (by rfl) (pa_cons (pv 3) (pa_cons (pv 3) pa_nil))) (pa_cons (pe_k c_times  hr (by decide) (by rfl) (pa_cons (pv 4) (pa_cons (pv 4) pa_nil))) pa_nil))) (pe_k c_times  hr (by decide) (by rfl) (pa_cons (pv 5) (pa_cons (pv 5) pa_nil))) (nomark _)) (pe_one (pe_cmpR (op_eqD hr.units) (pe_k c_times  hr (by decide) (by rfl) (pa_cons (pv 3) (pa_cons (pv 4) pa_nil))) (pe_tup (pa_cons (pe_op op_mul pe_int (pv 0)) (pa_cons pe_int pa_nil))) (nomark _)))))))), ?_⟩
    cases hv with
    | int i =>
      refine ⟨_, rfl, .int i, 3, false, rfl, .int i, ?_⟩
      refine ⟨_, rfl, iteT ?_⟩
      exact q _ (Same.refl _)
    | non =>
      refine ⟨_, rfl, .non, 3, false, rfl, .non, ?_⟩
      refine ⟨_, rfl, iteT ?_⟩
      exact q _ (Same.refl _)
    | tup p xs os hx hs hl =>
      refine ⟨_, rfl, .ref p, 3, _, rfl, .is p xs hx, ?_⟩
      refine ⟨_, rfl, ?_⟩
      by_cases h3 : (xs.length : Int) = 3
      · refine iteN (by simp [h3]) ?_
        obtain ⟨hlen, hsd⟩ := hs
        obtain ⟨x, y, z, rfl⟩ := len3 (l := xs) (by omega)
        obtain ⟨a, b, c, rfl⟩ := len3 (l := os) (by rw [← hlen]; rfl)
        have sa := hsd 0 x rfl
        have sb := hsd 1 y rfl
        have sc := hsd 2 z rfl
        obtain ⟨_, ea, sa⟩ := sa
        obtain rfl := Option.some.inj ea
        obtain ⟨_, eb, sb⟩ := sb
        obtain rfl := Option.some.inj eb
        obtain ⟨_, ec, sc⟩ := sc
        obtain rfl := Option.some.inj ec
        clear ea eb ec
        refine ⟨_, rfl, p, rfl, ⟨_, hx⟩, fun D hD => ?_⟩
        refine lc_tup (K := K) (a := p) (xs := [x, y, z]) (fun i H4 => Same H H4 ∧ H4 D = some (.lst (([a, b, c].take i).map fun o => V.bl (ps o)))) ⟨Same.new hD, upd_same⟩ (fun i H4 _ z => Same.tup z.1 hx) (fun i v H4 hi z => ?_) (fun H4 z => ?_)
        · obtain ⟨s4, hd⟩ := z
          obtain ⟨o, ho, so⟩ := hsd i v hi
          have hi3 : i < 3 := by
            have := (List.getElem?_eq_some_iff.mp hi).1
            simpa using this
          have hnext : ∀ bb, bb = ps o → ∃ acc, H4 D = some (.lst acc) ∧ acc.length < sizeLine ∧ (Same H (upd H4 D (.lst (acc ++ [V.bl bb]))) ∧ (upd H4 D (.lst (acc ++ [V.bl bb]))) D = some (.lst (([a, b, c].take (i + 1)).map fun o => V.bl (ps o)))) := by
            intro bb e
            subst e
            refine ⟨_, hd, ?_, Same.put s4 hD, ?_⟩
            · rw [List.length_map, List.length_take]
              exact small1000 (by omega)
            · rw [upd_same, List.take_succ, List.map_append, ho]
              rfl
          refine ⟨rfl, _, rfl, v, o, rfl, so.same s4, ?_⟩
          refine ⟨_, rfl, ?_⟩
          cases hf : isFr o with
          | false =>
            refine iteF ?_
            exact hnext false (by unfold ps; rw [hf]; rfl)
          | true =>
            refine iteT ?_
            have so4 := so.same s4
            cases so4 with
            | int i => cases hf
            | bl p2 b2 d2 h2 => cases hf
            | pr p2 n2 d2 h2 b2 c2 =>
              refine ⟨_, rfl, p2, _, 0, .int n2, rfl, rfl, h2, rfl, _, _, rfl, rfl, ?_⟩
              exact hnext _ (by unfold ps; rw [hf, Bool.true_and]; rfl)
        · obtain ⟨s4, hd⟩ := z
          refine ⟨D, [ps a, ps b, ps c], rfl, lst_of hd, ?_⟩
          refine ⟨_, rfl, ?_⟩
          have eall : [ps a, ps b, ps c].all id = (ps a && (ps b && ps c)) := by simp
          rw [eall]
          cases hall : (ps a && (ps b && ps c)) with
          | false =>
            refine iteT ?_
            have e : isT n (some [a, b, c]) = false := by
              show ((ps a && (ps b && ps c)) && _) = false
              rw [hall]
              rfl
            rw [e] at q
            exact q _ s4
          | true =>
            refine iteF ?_
            have e : isT n (some [a, b, c]) = (decide (qv a * qv a + qv b * qv b = qv c * qv c) && decide (qv a * qv b = ((2 * n : Int) : Rat))) := by
              show ((ps a && (ps b && ps c)) && _) = _
              rw [hall]
              rfl
            rw [e] at q
            rw [Bool.and_eq_true, Bool.and_eq_true] at hall
            obtain ⟨fa, fb, fc⟩ := hall
            obtain ⟨pa, rfl, ga, ba⟩ := side_at (sa.same s4) fa
            obtain ⟨pb, rfl, gb, bb⟩ := side_at (sb.same s4) fb
            obtain ⟨pc, rfl, gc, bc⟩ := side_at (sc.same s4) fc
            generalize qv a = a at *
            generalize qv b = b at *
            generalize qv c = c at *
            have hx4 := Same.tup s4 hx
            refine ⟨_, rfl, p, _, rfl, hx4, rfl, _, _, rfl, _, _, rfl, _, _, rfl, rfl, ?_⟩
            first | refine sigN [some (.int (n)), some (.ref p), none, some (.ref pa), some (.ref pb), some (.ref pc)] (by rfl) ?_ | refine sig [some (.int (n)), some (.ref p), none, some (.ref pa), some (.ref pb), some (.ref pc)] (by rfl) ?_
            have E0 : FrE K H4 [(pa, a, 901), (pb, b, 901), (pc, c, 901)] := FrE.add (FrE.add (FrE.add FrE.nil gc bc) gb bb) ga ba
            refine ⟨_, rfl, _, rfl, ?_⟩
            refine ⟨pa, pa, _, _, _, _, rfl, E0.get (by walk_at "mm"), E0.get (by walk_at "mm"), E0.rb (p := pa) (by walk_at "mm"), E0.rb (p := pa) (by walk_at "mm"), (by first | decide | omega), trivial, fun x1 nx1 => ?_⟩
            obtain ⟨H5, eH_, s5, E1⟩ := stepE E0 nx1 (RB.mul (E0.rb (p := pa) (by walk_at "mm")) (E0.rb (p := pa) (by walk_at "mm")))
            rw [eH_]
            clear eH_
            refine ⟨_, rfl, _, rfl, ?_⟩
            refine ⟨pb, pb, _, _, _, _, rfl, E1.get (by walk_at "mm"), E1.get (by walk_at "mm"), E1.rb (p := pb) (by walk_at "mm"), E1.rb (p := pb) (by walk_at "mm"), (by first | decide | omega), trivial, fun x2 nx2 => ?_⟩
            obtain ⟨H6, eH_, s6, E2⟩ := stepE E1 nx2 (RB.mul (E1.rb (p := pb) (by walk_at "mm")) (E1.rb (p := pb) (by walk_at "mm")))
            rw [eH_]
            clear eH_
            refine ⟨x1, x2, _, _, _, _, rfl, E2.get (by walk_at "mm"), E2.get (by walk_at "mm"), E2.rb (p := x1) (by walk_at "mm"), E2.rb (p := x2) (by walk_at "mm"), (by first | decide | omega), trivial, fun x3 nx3 => ?_⟩
            obtain ⟨H7, eH_, s7, E3⟩ := stepE E2 nx3 (RB.add (E2.rb (p := x1) (by walk_at "mm")) (E2.rb (p := x2) (by walk_at "mm")))
            rw [eH_]
            clear eH_
            refine ⟨_, rfl, _, rfl, ?_⟩
            refine ⟨pc, pc, _, _, _, _, rfl, E3.get (by walk_at "mm"), E3.get (by walk_at "mm"), E3.rb (p := pc) (by walk_at "mm"), E3.rb (p := pc) (by walk_at "mm"), (by first | decide | omega), trivial, fun x4 nx4 => ?_⟩
            obtain ⟨H8, eH_, s8, E4⟩ := stepE E3 nx4 (RB.mul (E3.rb (p := pc) (by walk_at "mm")) (E3.rb (p := pc) (by walk_at "mm")))
            rw [eH_]
            clear eH_
            refine ⟨dq (a * a + b * b), dq (c * c), dp_q (E4.get (p := x3) (by walk_at "mm")), dp_q (E4.get (p := x4) (by walk_at "mm")), rfl, rfl, ?_⟩
            rw [eqv_q]
            have s48 := s4.trans (s5.trans (s6.trans (s7.trans s8)))
            by_cases c1 : a * a + b * b = c * c
            · refine ⟨_, rfl, iteY (decide_eq_true c1) ?_⟩
              rw [decide_eq_true c1, Bool.true_and] at q
              refine ⟨_, rfl, _, rfl, ?_⟩
              refine ⟨pa, pb, _, _, _, _, rfl, E4.get (by walk_at "mm"), E4.get (by walk_at "mm"), E4.rb (p := pa) (by walk_at "mm"), E4.rb (p := pb) (by walk_at "mm"), (by first | decide | omega), trivial, fun x5 nx5 => ?_⟩
              obtain ⟨H9, eH_, s9, E5⟩ := stepE E4 nx5 (RB.mul (E4.rb (p := pa) (by walk_at "mm")) (E4.rb (p := pb) (by walk_at "mm")))
              rw [eH_]
              clear eH_
              refine ⟨_, rfl, _, _, rfl, rfl, Or.inl ⟨by decide, by decide⟩, (by show 2 ≤ sizeLine; decide), fun z2 nz2 => ?_⟩
              have sa2 := Same.new (H := H9) (p := z2) (o := .tup [.int (2 * n), .int 1]) nz2
              have gz2 : upd H9 z2 (.tup [.int (2 * n), .int 1]) z2 = some (.tup [.int (2 * n), .int 1]) := upd_same
              generalize upd H9 z2 (.tup [.int (2 * n), .int 1]) = Ha at sa2 gz2 ⊢
              rw [← fq_int] at gz2
              refine ⟨dq (a * b), dq ((2 * n : Int) : Rat), dp_q (Same.tup sa2 (E5.get (p := x5) (by walk_at "mm"))), dp_q (tup_of gz2), rfl, rfl, ?_⟩
              rw [eqv_q]
              exact q _ (s48.trans (s9.trans sa2))
            · refine ⟨_, rfl, iteN (by simpa using c1) ?_⟩
              rw [decide_eq_false c1, Bool.false_and] at q
              exact q _ s48
      · refine iteY (by simp [h3]) ?_
        rw [isT_len (by rw [← hs.1]; exact h3)] at q
        exact q _ (Same.refl _)
end
end K52
set_option Elab.async false
set_option linter.all false
set_option maxRecDepth 100000
set_option maxHeartbeats 4000000
namespace K52
open PySem PySem.Spec PyProof.Rows L2 Gd QM EcM EcP
local macro_rules | `(tactic| walk_at "mm") => `(tactic| (repeat (first | exact List.mem_cons_self | apply List.mem_cons_of_mem)))
/-! ### the law's look at triangles -/
mutual
theorem dp_up {K : PySem.W.Frag} {H H' : Hp} (s : Same H H') : ∀ {v : V} {d : PyData}, Dp K H v d → Dp K H' v d
  | _, _, .non => .non
  | _, _, .bl b => .bl b
  | _, _, .int i => .int i
  | _, _, .str z => .str z
  | _, _, .lst h a => .lst (s.seq h) (dpAll_up s a)
  | _, _, .tup h a => .tup (Same.tup s h) (dpAll_up s a)
theorem dpAll_up {K : PySem.W.Frag} {H H' : Hp} (s : Same H H') : ∀ {vs : List V} {ds : List PyData}, DpAll K H vs ds → DpAll K H' vs ds
  | _, _, .nil => .nil
  | _, _, .cons h r => .cons (dp_up s h) (dpAll_up s r)
end
theorem dpAll_add {K : PySem.W.Frag} {H : Hp} {xs : List V} {ds : List PyData} {x : V} {d : PyData} (h : DpAll K H xs ds) (k : Dp K H x d) : DpAll K H (xs ++ [x]) (ds ++ [d]) := by
  induction xs generalizing ds with
  | nil =>
    cases h
    exact .cons k .nil
  | cons y ys ih =>
    cases h with
    | cons h1 h2 => exact .cons h1 (ih h2)
/-- flat data -/
def Flat (d : PyData) : Prop := PyData.canLay0 d = true ∧ d.depth ≤ 5
theorem Sd.dp {K : PySem.W.Frag} {H : Hp} {v : V} {o : Option (Int × Int)} (h : Sd K H v o) : ∃ d, Dp K H v d ∧ Flat d := by
  cases h with
  | int i => exact ⟨.int i, .int i, rfl, by simp [PyData.depth]⟩
  | bl p b d h => exact ⟨.tuple [.bool b, .int d], .tup h (.cons (.bl b) (.cons (.int d) .nil)), rfl, by simp [PyData.depth, PyData.depthAll]⟩
  | pr p n d h _ _ => exact ⟨.tuple [.int n, .int d], .tup h (.cons (.int n) (.cons (.int d) .nil)), rfl, by simp [PyData.depth, PyData.depthAll]⟩
theorem flat_all {ds : List PyData} (h : ∀ d ∈ ds, Flat d) : SeqAt.shaped (.list ds) = true := by
  have h1 : PyData.canLayAll0 ds = true ∧ PyData.depthAll ds ≤ 5 := by
    induction ds with
    | nil => exact ⟨rfl, Nat.zero_le _⟩
    | cons d ds ih =>
      obtain ⟨i1, i2⟩ := ih fun x hx => h x (List.mem_cons_of_mem _ hx)
      obtain ⟨d1, d2⟩ := h d List.mem_cons_self
      constructor
      · rw [PyData.canLayAll0, d1, i1]
        rfl
      · rw [PyData.depthAll]
        omega
  unfold SeqAt.shaped
  rw [Bool.and_eq_true]
  constructor
  · rw [PyData.canLay0]
    exact h1.1
  · rw [decide_eq_true_iff, PyData.depth]
    omega
/-- the parts that are no fractions, as the list stands after i of them -/
def BadL (K : PySem.W.Frag) (H H4 : Hp) (D : Addr) (os : List (Option (Int × Int))) (i : Nat) : Prop :=
  ∃ (L : List V) (ds : List PyData), H4 D = some (.lst L) ∧ DpAll K H L ds ∧ (∀ d ∈ ds, Flat d) ∧ L.length ≤ i ∧ (ds = [] ↔ ∀ o ∈ os.take i, isFr o = true)
theorem take_all {os : List (Option (Int × Int))} {i : Nat} {o : Option (Int × Int)} (h : os[i]? = some o) : (∀ x ∈ os.take (i + 1), isFr x = true) ↔ (∀ x ∈ os.take i, isFr x = true) ∧ isFr o = true := by
  rw [List.take_succ, h]
  constructor
  · intro z
    exact ⟨fun x hx => z x (List.mem_append_left _ hx), z o (List.mem_append_right _ (by simp))⟩
  · rintro ⟨z1, z2⟩ x hx
    rcases List.mem_append.mp hx with hx | hx
    · exact z1 x hx
    · have : x = o := by simpa using hx
      rw [this]
      exact z2
theorem side_at2 {K : PySem.W.Frag} {H : Hp} {x : V} {o : Option (Int × Int)} (h : Sd K H x o) (f1 : isFr o = true) : ∃ p, x = .ref p ∧ SqT K H p (fq (qv o)) ∧ RB 901 (qv o) ∧ nm o = (qv o).num := by
  cases h with
  | int i => cases f1
  | bl p b d h => cases f1
  | pr p n d h hn hd =>
    obtain ⟨d0, e⟩ := fr_fq f1
    refine ⟨p, rfl, ?_, RB.of d0 (hn.up (by decide)) (hd.up (by decide)), ?_⟩
    · show SqT K H p (fq (Rat.divInt n d))
      rw [← e]
      exact h
    · have h1 := (List.cons.inj e).1
      exact V.int.inj h1
def mn3 (a b c : Int) : Int := if c < (if b < a then b else a) then c else (if b < a then b else a)
theorem mn3_is (a b c : Int) : nuMin3 (.int a) (.int b) (.int c) = some (.int (mn3 a b c)) := by
  have e1 : nuMin2 (.int a) (.int b) = some (if decide (b < a) = true then V.int b else V.int a) := rfl
  have e2 : ∀ x : Int, nuMin2 (.int x) (.int c) = some (if decide (c < x) = true then V.int c else V.int x) := fun x => rfl
  unfold nuMin3 mn3
  rw [e1]
  by_cases h : b < a
  · rw [if_pos (decide_eq_true h), if_pos h]
    show nuMin2 (.int b) (.int c) = _
    rw [e2]
    by_cases h2 : c < b
    · rw [if_pos (decide_eq_true h2), if_pos h2]
    · rw [if_neg (by simpa using h2), if_neg h2]
  · rw [if_neg (by simpa using h), if_neg h]
    show nuMin2 (.int a) (.int c) = _
    rw [e2]
    by_cases h2 : c < a
    · rw [if_pos (decide_eq_true h2), if_pos h2]
    · rw [if_neg (by simpa using h2), if_neg h2]
theorem mn3_lt {a b c : Int} : mn3 a b c < 1 ↔ ¬ (0 < a ∧ 0 < b ∧ 0 < c) := by
  unfold mn3
  repeat' split
  all_goals omega
section
variable {P : Program} {w : World} {K : PySem.W.Frag} {mg : Str → Option Value} {base : Heap}
def sp_law_is_triangle : PySem.W.Frag → Sp := sp_is_triangle
abbrev s__law_is_triangle : Stmt := topS 45
theorem sc__law_is_triangle : FnScope ["n", "value", "part", "a", "b", "c"] ["n", "value"] (defScope s__law_is_triangle) := ⟨rfl, rfl, rfl, by decide +kernel, rfl, by decide +kernel, by decide +kernel⟩
theorem k_law_is_triangle (T : Tx K mg) (D : Df K mg "_law_is_triangle" s__law_is_triangle ["n", "value"]) (c_law_plus : Kl P w K mg base 3 "_law_plus" (sp_law_plus K)) (c_law_by : Kl P w K mg base 3 "_law_by" (sp_law_by K)) (c_law_is_fraction : Kl P w K mg base 2 "_law_is_fraction" (sp_law_is_fraction K)) : Kl P w K mg base 4 "_law_is_triangle" (sp_law_is_triangle K) := by
  have nd := sc__law_is_triangle.nd
  refine Kl.by_body D sc__law_is_triangle (fun vs H Q E h => ?_) (fun f cdv A outer s H vs Q E hr h => ?_)
  · obtain ⟨_, _, _, rfl, _⟩ := h
    rfl
  · obtain ⟨n, v, o, rfl, hn, hv, q⟩ := h
    have hu1 := hu_of hr
    refine ⟨_, (pss_cons (ps_if (PW.pt (pw_or (pt_not (pt_val (pe_callB call_isi (by rfl) T.isinstance (by decide +kernel) (pa_cons (pv 1) (pa_cons (pe_bltn (v := .ty "tuple") (by rfl) T.tuple (by decide +kernel) rfl) pa_nil))))) (pw_or (pt_cmpR op_ne (pe_callB call_len_seq (by rfl) T.len (by decide +kernel) (pa_cons (pv 1) pa_nil)) pe_int (nomark _)) (pw_or1 (pt_cmpR (op_neD hr.units) (pe_lc (own := [("part", 2)]) (g := gName 2) rfl nd (pi_tup (pv 1)) (blkOk_by (N := ["n", "value", "part", "a", "b", "c"]) (sc := defScope s__law_is_triangle) (by decide +kernel)) (fun _ _ _ _ _ => (pg_name (i := 2) nd rfl (by first | exact Or.inl rfl | exact Or.inr rfl))) (fun _ _ _ _ _ => (pts_one (pt_not (pt_val (pe_k c_law_is_fraction  hr (by decide) (by rfl) (pa_cons (pv 2) pa_nil)))))) (fun _ _ _ _ _ => (pv 2))) (pe_lst pa_nil) (nomark _)))))) (pss_one (ps_ret pe_bl)) pss_nil)
      (pss_cons (ps_asg (pv 1) (pg_tup rfl (pgs_cons (pg_name (i := 3) nd rfl (by first | exact Or.inl rfl | exact Or.inr rfl)) (pgs_cons (pg_name (i := 4) nd rfl (by first | exact Or.inl rfl | exact Or.inr rfl)) (pgs_cons (pg_name (i := 5) nd rfl (by first | exact Or.inl rfl | exact Or.inr rfl)) pgs_nil)))))
      (pss_cons (ps_if (PW.pt (pw_or (pt_cmpR op_lt (pe_callB (call_min3Nu rfl) (by rfl) T.min (by decide +kernel) (pa_cons (pe_ix ix_tup (pv 3) pe_int (fun _ _ => rfl)) (pa_cons (pe_ix ix_tup (pv 4) pe_int (fun _ _ => rfl)) (pa_cons (pe_ix ix_tup (pv 5) pe_int (fun _ _ => rfl)) pa_nil)))) pe_int (nomark _)) (pw_or1 (pt_cmpR (op_neD hr.units) (pe_k c_law_by  hr (by decide) (by rfl) (pa_cons (pv 3) (pa_cons (pv 4) pa_nil))) (pe_tup (pa_cons (pe_op op_mul pe_int (pv 0)) (pa_cons pe_int pa_nil))) (nomark _))))) (pss_one (ps_ret pe_bl)) pss_nil)
      (pss_one (ps_ret (pe_cmpR (op_eqD hr.units) (pe_k c_law_plus  hr (by decide) (by rfl) (pa_cons (pe_k c_law_by  hr (by decide) (by rfl) (pa_cons (pv 3) (pa_cons (pv 3) pa_nil))) (pa_cons (pe_k c_law_by  hr (by decide) (by rfl) (pa_cons (pv 4) (pa_cons (pv 4) pa_nil))) pa_nil))) (pe_k c_law_by  hr (by decide) (by rfl) (pa_cons (pv 5) (pa_cons (pv 5) pa_nil))) (nomark _))))))), ?_⟩
    cases hv with
    | int i =>
      refine ⟨_, rfl, .int i, .ty "tuple", _, .type "tuple", false, rfl, .ty _, .base (.int i), kit_ty (by decide +kernel), ?_⟩
      refine ⟨_, rfl, iteT ?_⟩
      exact q _ (Same.refl _)
    | non =>
      refine ⟨_, rfl, .non, .ty "tuple", _, .type "tuple", false, rfl, .ty _, .base .non, kit_ty (by decide +kernel), ?_⟩
      refine ⟨_, rfl, iteT ?_⟩
      exact q _ (Same.refl _)
    | tup p xs os hx hs hl =>
      refine ⟨_, rfl, .ref p, .ty "tuple", .type "tuple", .type "tuple", true, rfl, .ty _, tyx_tup hx, kit_ty (by decide +kernel), ?_⟩
      refine ⟨_, rfl, iteF ?_⟩
      refine ⟨_, rfl, p, _, rfl, .inr hx, ?_⟩
      by_cases h3 : (xs.length : Int) = 3
      · refine ⟨rfl, _, rfl, iteN (by simp [h3]) ?_⟩
        obtain ⟨hlen, hsd⟩ := hs
        refine ⟨_, rfl, p, rfl, ⟨_, hx⟩, fun D hD => ?_⟩
        refine lc_tup (K := K) (a := p) (xs := xs) (fun i H4 => Same H H4 ∧ BadL K H H4 D os i) ⟨Same.new hD, [], [], upd_same, .nil, (fun d hd => by cases hd), Nat.le_refl _, (by simp)⟩ (fun i H4 _ z => Same.tup z.1 hx) (fun i v H4 hi z => ?_) (fun H4 z => ?_)
        · obtain ⟨s4, L, ds, hd, hdp, hfl, hli, hiff⟩ := z
          obtain ⟨o, ho, so⟩ := hsd i v hi
          have hi3 : i < 3 := by
            have := (List.getElem?_eq_some_iff.mp hi).1
            omega
          refine ⟨rfl, _, rfl, v, o, rfl, so.same s4, fun H5 s5 => ?_⟩
          refine ⟨_, rfl, ?_⟩
          cases hf : isFr o with
          | false =>
            refine iteT ?_
            obtain ⟨d, dd, df⟩ := so.dp
            refine ⟨_, rfl, L, s5 _ _ hd, small1000 (by omega), Same.put (s4.trans s5) hD, L ++ [v], ds ++ [d], upd_same, dpAll_add hdp dd, ?_, ?_, ?_⟩
            · intro x hx
              rcases List.mem_append.mp hx with hx | hx
              · exact hfl x hx
              · have : x = d := by simpa using hx
                rw [this]
                exact df
            · rw [List.length_append]
              exact Nat.add_le_add_right hli 1
            · rw [take_all ho, hf]
              simp
          | true =>
            refine iteF ?_
            refine ⟨s4.trans s5, L, ds, s5 _ _ hd, hdp, hfl, Nat.le_succ_of_le hli, ?_⟩
            rw [take_all ho, hf, hiff]
            simp
        · obtain ⟨s4, L, ds, hd, hdp, hfl, hli, hiff⟩ := z
          rw [hlen, List.take_length] at hiff
          refine ⟨(by show 0 ≤ sizeLine; decide), fun e0 ne0 => ?_⟩
          have s5 := Same.new (H := H4) (p := e0) (o := .lst []) ne0
          have g5 : upd H4 e0 (.lst []) e0 = some (.lst []) := upd_same
          generalize upd H4 e0 (.lst []) = H5 at s5 g5 ⊢
          have s05 := s4.trans s5
          refine ⟨.list ds, .list [], .lst (lst_of (s5 _ _ hd)) (dpAll_up s05 hdp), .lst (lst_of g5) .nil, flat_all hfl, rfl, _, rfl, ?_⟩
          obtain ⟨x, y, z, rfl⟩ := len3 (l := xs) (by omega)
          obtain ⟨a, b, c, rfl⟩ := len3 (l := os) (by rw [← hlen]; rfl)
          obtain ⟨_, ea, sa⟩ := hsd 0 x rfl
          obtain rfl := Option.some.inj ea
          obtain ⟨_, eb, sb⟩ := hsd 1 y rfl
          obtain rfl := Option.some.inj eb
          obtain ⟨_, ec, sc⟩ := hsd 2 z rfl
          obtain rfl := Option.some.inj ec
          clear ea eb ec
          have e : isT n (some [a, b, c]) = ((ps a && (ps b && ps c)) && (decide (qv a * qv a + qv b * qv b = qv c * qv c) && decide (qv a * qv b = ((2 * n : Int) : Rat)))) := rfl
          rw [e] at q
          clear e
          cases ds with
          | cons d ds =>
            refine iteY rfl ?_
            have hno : ¬ (isFr a = true ∧ isFr b = true ∧ isFr c = true) := fun z => by
              have := hiff.mpr (fun o ho => by
                simp only [List.mem_cons, List.not_mem_nil, or_false] at ho
                rcases ho with rfl | rfl | rfl
                · exact z.1
                · exact z.2.1
                · exact z.2.2)
              cases this
            have e2 : (ps a && (ps b && ps c)) = false := by
              unfold ps
              cases ha : isFr a
              · rfl
              · cases hb : isFr b
                · simp
                · cases hc : isFr c
                  · simp
                  · exact absurd ⟨ha, hb, hc⟩ hno
            rw [e2, Bool.false_and] at q
            exact q _ s05
          | nil =>
            refine iteN (by intro z; cases z) ?_
            have hall := hiff.mp rfl
            have fa := hall a (by simp)
            have fb := hall b (by simp)
            have fc := hall c (by simp)
            obtain ⟨pa, rfl, ga, ba, na⟩ := side_at2 (sa.same s05) fa
            obtain ⟨pb, rfl, gb, bb, nb⟩ := side_at2 (sb.same s05) fb
            obtain ⟨pc, rfl, gc, bc, nc⟩ := side_at2 (sc.same s05) fc
            have eps : (ps a && (ps b && ps c)) = decide (0 < (qv a).num ∧ 0 < (qv b).num ∧ 0 < (qv c).num) := by
              unfold ps
              rw [fa, fb, fc, na, nb, nc, Bool.eq_iff_iff]
              simp
            rw [eps] at q
            clear eps na nb nc fa fb fc hall hiff sa sb sc
            generalize qv a = a at *
            generalize qv b = b at *
            generalize qv c = c at *
            have hx5 := Same.tup s05 hx
            refine ⟨_, rfl, p, _, rfl, hx5, rfl, _, _, rfl, _, _, rfl, _, _, rfl, rfl, ?_⟩
            first | refine sigN [some (.int (n)), some (.ref p), none, some (.ref pa), some (.ref pb), some (.ref pc)] (by rfl) ?_ | refine sig [some (.int (n)), some (.ref p), none, some (.ref pa), some (.ref pb), some (.ref pc)] (by rfl) ?_
            refine ⟨_, rfl, pa, _, 0, .int a.num, rfl, rfl, ga, rfl, _, rfl, pb, _, 0, .int b.num, rfl, rfl, gb, rfl, _, rfl, pc, _, 0, .int c.num, rfl, rfl, gc, rfl, .int a.num, .int b.num, .int c.num, .int (mn3 a.num b.num c.num), rfl, mn3_is _ _ _, _, _, rfl, rfl, _, rfl, ?_⟩
            by_cases hm : mn3 a.num b.num c.num < 1
            · refine iteY (decide_eq_true hm) ?_
              rw [decide_eq_false (mn3_lt.mp hm), Bool.false_and] at q
              exact q _ s05
            · refine iteN (by simpa using hm) ?_
              have hm2 : 0 < a.num ∧ 0 < b.num ∧ 0 < c.num := Decidable.byContradiction fun z => hm (mn3_lt.mpr z)
              rw [decide_eq_true hm2, Bool.true_and] at q
              have E0 : FrE K H5 [(pa, a, 901), (pb, b, 901), (pc, c, 901)] := FrE.add (FrE.add (FrE.add FrE.nil gc bc) gb bb) ga ba
              refine ⟨_, rfl, _, rfl, ?_⟩
              refine ⟨pa, pb, _, _, _, _, rfl, E0.get (by walk_at "mm"), E0.get (by walk_at "mm"), E0.rb (p := pa) (by walk_at "mm"), E0.rb (p := pb) (by walk_at "mm"), (by first | decide | omega), trivial, fun x5 nx5 => ?_⟩
              obtain ⟨H6, eH_, s6, E1⟩ := stepE E0 nx5 (RB.mul (E0.rb (p := pa) (by walk_at "mm")) (E0.rb (p := pb) (by walk_at "mm")))
              rw [eH_]
              clear eH_
              refine ⟨_, rfl, _, _, rfl, rfl, Or.inl ⟨by decide, by decide⟩, (by show 2 ≤ sizeLine; decide), fun z2 nz2 => ?_⟩
              have s7 := Same.new (H := H6) (p := z2) (o := .tup [.int (2 * n), .int 1]) nz2
              have gz2 : upd H6 z2 (.tup [.int (2 * n), .int 1]) z2 = some (.tup [.int (2 * n), .int 1]) := upd_same
              generalize upd H6 z2 (.tup [.int (2 * n), .int 1]) = H7 at s7 gz2 ⊢
              rw [← fq_int] at gz2
              refine ⟨dq (a * b), dq ((2 * n : Int) : Rat), dp_q (Same.tup s7 (E1.get (p := x5) (by walk_at "mm"))), dp_q (tup_of gz2), rfl, rfl, _, rfl, ?_⟩
              rw [eqv_q]
              have s07 := s05.trans (s6.trans s7)
              by_cases c1 : a * b = ((2 * n : Int) : Rat)
              · rw [decide_eq_true c1]
                refine iteF ?_
                rw [decide_eq_true c1, Bool.and_true] at q
                have E2 := E1.same s7
                refine ⟨_, rfl, _, rfl, ?_⟩
                refine ⟨pa, pa, _, _, _, _, rfl, E2.get (by walk_at "mm"), E2.get (by walk_at "mm"), E2.rb (p := pa) (by walk_at "mm"), E2.rb (p := pa) (by walk_at "mm"), (by first | decide | omega), trivial, fun x1 nx1 => ?_⟩
                obtain ⟨H8, eH_, s8, E3⟩ := stepE E2 nx1 (RB.mul (E2.rb (p := pa) (by walk_at "mm")) (E2.rb (p := pa) (by walk_at "mm")))
                rw [eH_]
                clear eH_
                refine ⟨_, rfl, _, rfl, ?_⟩
                refine ⟨pb, pb, _, _, _, _, rfl, E3.get (by walk_at "mm"), E3.get (by walk_at "mm"), E3.rb (p := pb) (by walk_at "mm"), E3.rb (p := pb) (by walk_at "mm"), (by first | decide | omega), trivial, fun x2 nx2 => ?_⟩
                obtain ⟨H9, eH_, s9, E4⟩ := stepE E3 nx2 (RB.mul (E3.rb (p := pb) (by walk_at "mm")) (E3.rb (p := pb) (by walk_at "mm")))
                rw [eH_]
                clear eH_
                refine ⟨x1, x2, _, _, _, _, rfl, E4.get (by walk_at "mm"), E4.get (by walk_at "mm"), E4.rb (p := x1) (by walk_at "mm"), E4.rb (p := x2) (by walk_at "mm"), (by first | decide | omega), trivial, fun x3 nx3 => ?_⟩
                obtain ⟨Ha, eH_, sa, E5⟩ := stepE E4 nx3 (RB.add (E4.rb (p := x1) (by walk_at "mm")) (E4.rb (p := x2) (by walk_at "mm")))
                rw [eH_]
                clear eH_
                refine ⟨_, rfl, _, rfl, ?_⟩
                refine ⟨pc, pc, _, _, _, _, rfl, E5.get (by walk_at "mm"), E5.get (by walk_at "mm"), E5.rb (p := pc) (by walk_at "mm"), E5.rb (p := pc) (by walk_at "mm"), (by first | decide | omega), trivial, fun x4 nx4 => ?_⟩
                obtain ⟨Hb, eH_, sb, E6⟩ := stepE E5 nx4 (RB.mul (E5.rb (p := pc) (by walk_at "mm")) (E5.rb (p := pc) (by walk_at "mm")))
                rw [eH_]
                clear eH_
                refine ⟨dq (a * a + b * b), dq (c * c), dp_q (E6.get (p := x3) (by walk_at "mm")), dp_q (E6.get (p := x4) (by walk_at "mm")), rfl, rfl, ?_⟩
                rw [eqv_q]
                exact q _ (s07.trans (s8.trans (s9.trans (sa.trans sb))))
              · rw [decide_eq_false c1]
                refine iteT ?_
                rw [decide_eq_false c1, Bool.and_false] at q
                exact q _ s07
      · refine ⟨rfl, _, rfl, iteY (by simp [h3]) ?_⟩
        rw [isT_len (by rw [← hs.1]; exact h3)] at q
        exact q _ (Same.refl _)
end
end K52
set_option Elab.async false
set_option linter.all false
set_option maxRecDepth 100000
set_option maxHeartbeats 4000000
namespace K52
open PySem PySem.Spec PyProof.Rows L2 Gd QM EcM EcP
/-! ### triples that are bent -/
def SdE (K : PySem.W.Frag) (H : Hp) (v : V) : Prop := ∃ o, Sd K H v o
theorem SdE.same {K : PySem.W.Frag} {H H' : Hp} {v : V} (s : Same H H') (h : SdE K H v) : SdE K H' v := h.imp fun o h => h.same s
def VlE (K : PySem.W.Frag) (H : Hp) (v : V) : Prop := ∃ o, Vl K H v o
theorem Vl.same {K : PySem.W.Frag} {H H' : Hp} {v : V} {o : Option (List (Option (Int × Int)))} (s : Same H H') (h : Vl K H v o) : Vl K H' v o := by
  cases h with
  | int i => exact .int i
  | non => exact .non
  | tup p xs os h1 h2 h3 => exact .tup p xs os (Same.tup s h1) (h2.same s) h3
theorem VlE.same {K : PySem.W.Frag} {H H' : Hp} {v : V} (s : Same H H') (h : VlE K H v) : VlE K H' v := h.imp fun o h => h.same s
theorem Sd.but {K : PySem.W.Frag} {m cl : Addr} {n : Nat} {H H' : Hp} {v : V} {o : Option (Int × Int)} (b : But m H H') (hM : MAt H m cl n) (h : Sd K H v o) : Sd K H' v o := by
  cases h with
  | int i => exact .int i
  | bl p b d h => exact .bl p b d (But.seqT (by assumption) hM h)
  | pr p n d h h1 h2 => exact .pr p n d (b.seqT hM h) h1 h2
theorem Vl.but {K : PySem.W.Frag} {m cl : Addr} {n : Nat} {H H' : Hp} {v : V} {o : Option (List (Option (Int × Int)))} (b : But m H H') (hM : MAt H m cl n) (h : Vl K H v o) : Vl K H' v o := by
  cases h with
  | int i => exact .int i
  | non => exact .non
  | tup p xs os h1 h2 h3 =>
    refine .tup p xs os (b.seqT hM h1) ⟨h2.1, fun i x e => ?_⟩ h3
    obtain ⟨o, e1, e2⟩ := h2.2 i x e
    exact ⟨o, e1, e2.but b hM⟩
theorem sdl_of {K : PySem.W.Frag} {H : Hp} : ∀ {xs : List V}, (∀ x ∈ xs, SdE K H x) → ∃ os, SdL K H xs os
  | [], _ => ⟨[], rfl, fun i x h => by simp at h⟩
  | x :: xs, h => by
    obtain ⟨o, ho⟩ := h x List.mem_cons_self
    obtain ⟨os, h1, h2⟩ := sdl_of (xs := xs) fun y hy => h y (List.mem_cons_of_mem _ hy)
    refine ⟨o :: os, by rw [List.length_cons, List.length_cons, h1], fun i y e => ?_⟩
    cases i with
    | zero =>
      obtain rfl := Option.some.inj e
      exact ⟨o, rfl, ho⟩
    | succ i => exact h2 i y e
theorem vl_of {K : PySem.W.Frag} {H : Hp} {p : Addr} {xs : List V} (h : SqT K H p xs) (k : ∀ x ∈ xs, SdE K H x) (l : xs.length ≤ 10) : VlE K H (.ref p) := by
  obtain ⟨os, ho⟩ := sdl_of k
  exact ⟨_, .tup p xs os h ho l⟩
theorem sd_q {K : PySem.W.Frag} {H : Hp} {p : Addr} {q : Rat} (h : SqT K H p (fq q)) (b : RB 900 q) : SdE K H (.ref p) := ⟨_, .pr p q.num (q.den : Int) h b.n b.d⟩
theorem sd_i {K : PySem.W.Frag} {H : Hp} {p : Addr} {n d : Int} (h : SqT K H p [.int n, .int d]) (b : B 900 n) (c : B 900 d) : SdE K H (.ref p) := ⟨_, .pr p n d h b c⟩
theorem all0 {K : PySem.W.Frag} {H : Hp} : ∀ x ∈ ([] : List V), SdE K H x := fun x h => by cases h
theorem allc {K : PySem.W.Frag} {H : Hp} {v : V} {vs : List V} (h : SdE K H v) (k : ∀ x ∈ vs, SdE K H x) : ∀ x ∈ v :: vs, SdE K H x := fun x hx => by
  rcases List.mem_cons.mp hx with rfl | hx
  · exact h
  · exact k x hx
def AllV (K : PySem.W.Frag) (H : Hp) (vs : List V) : Prop := ∀ x ∈ vs, VlE K H x
theorem AllV.same {K : PySem.W.Frag} {H H' : Hp} {vs : List V} (h : AllV K H vs) (s : Same H H') : AllV K H' vs := fun x hx => (h x hx).same s
theorem AllV.add {K : PySem.W.Frag} {H : Hp} {vs : List V} {v : V} (h : AllV K H vs) (k : VlE K H v) : AllV K H (vs ++ [v]) := fun x hx => by
  rcases List.mem_append.mp hx with hx | hx
  · exact h x hx
  · have : x = v := by simpa using hx
    rw [this]
    exact k
section
variable {P : Program} {w : World} {K : PySem.W.Frag} {mg : Str → Option Value} {base : Heap}
def sp_law_bent_triple (K : PySem.W.Frag) : Sp := fun vs H Q _ => ∃ (m cl p : Addr) (N : Int) (n : Nat) (c : C3), vs = [.ref m, .int N, .ref p] ∧ n ≤ 5000 ∧ MAt H m cl n ∧ TrT K H p c ∧ RB 11 c.1 ∧ RB 11 c.2.1 ∧ RB 11 c.2.2 ∧ ∀ H' v o, But m H H' → MAt H' m cl (n + 2) → Vl K H' v o → Q v H'
abbrev s__law_bent_triple : Stmt := topS 46
theorem sc__law_bent_triple : FnScope ["m", "n", "triangle", "a", "b", "c", "k", "some"] ["m", "n", "triangle"] (defScope s__law_bent_triple) := ⟨rfl, rfl, rfl, by decide +kernel, rfl, by decide +kernel, by decide +kernel⟩
theorem k_law_bent_triple (T : Tx K mg) (D : Df K mg "_law_bent_triple" s__law_bent_triple ["m", "n", "triangle"]) (c_law_of : Kl P w K mg base 2 "_law_of" (sp_law_of K)) (c_law_draw : Kl P w K mg base 1 "_law_draw" (sp_law_draw K)) (c_law_by : Kl P w K mg base 3 "_law_by" (sp_law_by K)) (c_law_over : Kl P w K mg base 3 "_law_over" (sp_law_over K)) : Kl P w K mg base 4 "_law_bent_triple" (sp_law_bent_triple K) := by
  have nd := sc__law_bent_triple.nd
  refine Kl.by_body D sc__law_bent_triple (fun vs H Q E h => ?_) (fun f cdv A outer s H vs Q E hr h => ?_)
  · obtain ⟨_, _, _, _, _, _, rfl, _⟩ := h
    rfl
  · obtain ⟨m, cl, p, N, n, ⟨c1, c2, c3⟩, rfl, hn, hM, ⟨pa, pb, pc, h0, h1, h2, h3⟩, b1, b2, b3, q⟩ := h
    have hu1 := hu_of hr
    refine ⟨_, (pss_cons (ps_asg (pv 2) (pg_tup rfl (pgs_cons (pg_name (i := 3) nd rfl (by first | exact Or.inl rfl | exact Or.inr rfl)) (pgs_cons (pg_name (i := 4) nd rfl (by first | exact Or.inl rfl | exact Or.inr rfl)) (pgs_cons (pg_name (i := 5) nd rfl (by first | exact Or.inl rfl | exact Or.inr rfl)) pgs_nil)))))
      (pss_cons (ps_set (i := 6) nd rfl (by first | exact Or.inl rfl | exact Or.inr rfl) (pe_op op_add pe_int (pe_k c_law_draw  hr (by decide) (by rfl) (pa_cons (pv 0) (pa_cons pe_int pa_nil)))))
      (pss_cons (ps_set (i := 7) nd rfl (by first | exact Or.inl rfl | exact Or.inr rfl) (pe_lst (pa_cons (pe_tup (pa_cons (pv 4) (pa_cons (pv 3) (pa_cons (pv 5) pa_nil)))) (pa_cons (pe_tup (pa_cons (pv 3) (pa_cons (pv 5) (pa_cons (pv 4) pa_nil)))) (pa_cons (pe_tup (pa_cons (pv 5) (pa_cons (pv 4) (pa_cons (pv 3) pa_nil)))) (pa_cons (pe_tup (pa_cons (pv 3) (pa_cons (pv 4) pa_nil))) (pa_cons (pe_tup (pa_cons (pv 3) (pa_cons (pv 4) (pa_cons (pv 5) (pa_cons (pv 5) pa_nil))))) (pa_cons (pe_tup (pa_cons (pv 3) (pa_cons (pv 4) (pa_cons (pe_tup (pa_cons (pe_op op_add (pe_ix ix_tup (pv 5) pe_int (fun _ _ => rfl)) (pv 6)) (pa_cons (pe_ix ix_tup (pv 5) pe_int (fun _ _ => rfl)) pa_nil))) pa_nil)))) (pa_cons (pe_tup (pa_cons (pe_tup (pa_cons (pe_un un_neg (pe_ix ix_tup (pv 3) pe_int (fun _ _ => rfl))) (pa_cons (pe_ix ix_tup (pv 3) pe_int (fun _ _ => rfl)) pa_nil))) (pa_cons (pe_tup (pa_cons (pe_un un_neg (pe_ix ix_tup (pv 4) pe_int (fun _ _ => rfl))) (pa_cons (pe_ix ix_tup (pv 4) pe_int (fun _ _ => rfl)) pa_nil))) (pa_cons (pv 5) pa_nil)))) pa_nil)))))))))
      (pss_cons (ps_set (i := 7) nd rfl (by first | exact Or.inl rfl | exact Or.inr rfl) (pe_op op_cat (pv 7) (pe_lst (pa_cons (pe_tup (pa_cons (pe_tup (pa_cons (pe_op op_mul (pe_ix ix_tup (pv 3) pe_int (fun _ _ => rfl)) pe_int) (pa_cons (pe_op op_mul (pe_ix ix_tup (pv 3) pe_int (fun _ _ => rfl)) pe_int) pa_nil))) (pa_cons (pv 4) (pa_cons (pv 5) pa_nil)))) (pa_cons (pe_tup (pa_cons (pv 3) (pa_cons (pv 4) (pa_cons (pe_tup (pa_cons (pe_un un_neg (pe_ix ix_tup (pv 5) pe_int (fun _ _ => rfl))) (pa_cons (pe_ix ix_tup (pv 5) pe_int (fun _ _ => rfl)) pa_nil))) pa_nil)))) (pa_cons (pe_tup (pa_cons (pe_k c_law_by  hr (by decide) (by rfl) (pa_cons (pv 3) (pa_cons (pe_tup (pa_cons (pv 6) (pa_cons pe_int pa_nil))) pa_nil))) (pa_cons (pe_k c_law_over  hr (by decide) (by rfl) (pa_cons (pv 4) (pa_cons (pe_tup (pa_cons (pv 6) (pa_cons pe_int pa_nil))) pa_nil))) (pa_cons (pv 5) pa_nil)))) (pa_cons (pe_tup (pa_cons (pv 3) (pa_cons (pv 4) (pa_cons pe_int pa_nil)))) (pa_cons pe_non pa_nil))))))))
      (pss_cons (ps_set (i := 7) nd rfl (by first | exact Or.inl rfl | exact Or.inr rfl) (pe_op op_cat (pv 7) (pe_lst (pa_cons (pe_tup (pa_cons (pe_k c_law_by  hr (by decide) (by rfl) (pa_cons (pv 3) (pa_cons (pe_tup (pa_cons (pv 6) (pa_cons pe_int pa_nil))) pa_nil))) (pa_cons (pe_k c_law_by  hr (by decide) (by rfl) (pa_cons (pv 4) (pa_cons (pe_tup (pa_cons (pv 6) (pa_cons pe_int pa_nil))) pa_nil))) (pa_cons (pe_k c_law_by  hr (by decide) (by rfl) (pa_cons (pv 5) (pa_cons (pe_tup (pa_cons (pv 6) (pa_cons pe_int pa_nil))) pa_nil))) pa_nil)))) (pa_cons (pe_tup (pa_cons (pv 3) (pa_cons (pv 4) (pa_cons (pe_tup (pa_cons pe_bl (pa_cons pe_int pa_nil))) pa_nil)))) (pa_cons (pv 2) (pa_cons pe_int (pa_cons (pe_tup pa_nil) pa_nil))))))))
      (pss_one (ps_ret (pe_k c_law_of  hr (by decide) (by rfl) (pa_cons (pv 0) (pa_cons (pv 7) pa_nil)))))))))), ?_⟩
    replace h1 : SqT K H pa (fq c1) := h1
    replace h2 : SqT K H pb (fq c2) := h2
    replace h3 : SqT K H pc (fq c3) := h3
    replace b1 : RB 11 c1 := b1
    replace b2 : RB 11 c2 := b2
    replace b3 : RB 11 c3 := b3
    refine ⟨_, rfl, p, _, rfl, h0, rfl, _, _, rfl, _, _, rfl, _, _, rfl, rfl, ?_⟩
    first | refine sigN [some (.ref m), some (.int (N)), some (.ref p), some (.ref pa), some (.ref pb), some (.ref pc), none, none] (by rfl) ?_ | refine sig [some (.ref m), some (.int (N)), some (.ref p), some (.ref pa), some (.ref pb), some (.ref pc), none, none] (by rfl) ?_
    refine ⟨_, rfl, m, cl, 3, n, rfl, by decide, by decide, by omega, hM, fun I0 k' bm m0 k0 k1 => ⟨_, _, rfl, rfl, ?_⟩⟩
    first | refine sigN [some (.ref m), some (.int (N)), some (.ref p), some (.ref pa), some (.ref pb), some (.ref pc), some (.int (1 + k')), none] (by rfl) ?_ | refine sig [some (.ref m), some (.int (N)), some (.ref p), some (.ref pa), some (.ref pb), some (.ref pc), some (.int (1 + k')), none] (by rfl) ?_
    obtain ⟨k, hk⟩ : ∃ k : Int, 1 + k' = k := ⟨_, rfl⟩
    rw [hk]
    have kB : B 2 k := by
      unfold Gd.B
      omega
    have kz : (k : Rat) ≠ 0 := fun z => by
      have : k = 0 := by exact_mod_cast z
      omega
    have kR : RB 2 (k : Rat) := RB.int kB (by decide)
    replace h0 := bm.seqT hM h0
    replace h1 := bm.seqT hM h1
    replace h2 := bm.seqT hM h2
    replace h3 := bm.seqT hM h3
    clear hk k0 k1
    have da : SdE K I0 (.ref pa) := sd_q h1 (b1.up (by decide))
    have db : SdE K I0 (.ref pb) := sd_q h2 (b2.up (by decide))
    have dc : SdE K I0 (.ref pc) := sd_q h3 (b3.up (by decide))
    have j0 := Same.refl I0
    have A0 : AllV K I0 [] := fun x h => by cases h
    refine ⟨_, rfl, _, rfl, _, rfl, (by show 3 ≤ sizeLine; decide), fun t0 nt0 => ?_⟩
    have s1 := Same.new (H := I0) (p := t0) (o := .tup [.ref pb, .ref pa, .ref pc]) nt0
    have g1 : upd I0 t0 (.tup [.ref pb, .ref pa, .ref pc]) t0 = some (.tup [.ref pb, .ref pa, .ref pc]) := upd_same
    generalize upd I0 t0 (.tup [.ref pb, .ref pa, .ref pc]) = I1 at s1 g1 ⊢
    have j1 := j0.trans s1
    have A0_1 := A0.same s1
    have B1 := A0_1.add (vl_of (tup_of g1) (allc (db.same j1) (allc (da.same j1) (allc (dc.same j1) all0))) (by show 3 ≤ 10; decide))
    refine ⟨_, rfl, _, rfl, _, rfl, (by show 3 ≤ sizeLine; decide), fun t1 nt1 => ?_⟩
    have s2 := Same.new (H := I1) (p := t1) (o := .tup [.ref pa, .ref pc, .ref pb]) nt1
    have g2 : upd I1 t1 (.tup [.ref pa, .ref pc, .ref pb]) t1 = some (.tup [.ref pa, .ref pc, .ref pb]) := upd_same
    generalize upd I1 t1 (.tup [.ref pa, .ref pc, .ref pb]) = I2 at s2 g2 ⊢
    have j2 := j1.trans s2
    have A1_2 := B1.same s2
    have B2 := A1_2.add (vl_of (tup_of g2) (allc (da.same j2) (allc (dc.same j2) (allc (db.same j2) all0))) (by show 3 ≤ 10; decide))
    refine ⟨_, rfl, _, rfl, _, rfl, (by show 3 ≤ sizeLine; decide), fun t2 nt2 => ?_⟩
    have s3 := Same.new (H := I2) (p := t2) (o := .tup [.ref pc, .ref pb, .ref pa]) nt2
    have g3 : upd I2 t2 (.tup [.ref pc, .ref pb, .ref pa]) t2 = some (.tup [.ref pc, .ref pb, .ref pa]) := upd_same
    generalize upd I2 t2 (.tup [.ref pc, .ref pb, .ref pa]) = I3 at s3 g3 ⊢
    have j3 := j2.trans s3
    have A2_3 := B2.same s3
    have B3 := A2_3.add (vl_of (tup_of g3) (allc (dc.same j3) (allc (db.same j3) (allc (da.same j3) all0))) (by show 3 ≤ 10; decide))
    refine ⟨_, rfl, _, rfl, (by show 2 ≤ sizeLine; decide), fun t3 nt3 => ?_⟩
    have s4 := Same.new (H := I3) (p := t3) (o := .tup [.ref pa, .ref pb]) nt3
    have g4 : upd I3 t3 (.tup [.ref pa, .ref pb]) t3 = some (.tup [.ref pa, .ref pb]) := upd_same
    generalize upd I3 t3 (.tup [.ref pa, .ref pb]) = I4 at s4 g4 ⊢
    have j4 := j3.trans s4
    have A3_4 := B3.same s4
    have B4 := A3_4.add (vl_of (tup_of g4) (allc (da.same j4) (allc (db.same j4) all0)) (by show 2 ≤ 10; decide))
    refine ⟨_, rfl, _, rfl, _, rfl, _, rfl, (by show 4 ≤ sizeLine; decide), fun t4 nt4 => ?_⟩
    have s5 := Same.new (H := I4) (p := t4) (o := .tup [.ref pa, .ref pb, .ref pc, .ref pc]) nt4
    have g5 : upd I4 t4 (.tup [.ref pa, .ref pb, .ref pc, .ref pc]) t4 = some (.tup [.ref pa, .ref pb, .ref pc, .ref pc]) := upd_same
    generalize upd I4 t4 (.tup [.ref pa, .ref pb, .ref pc, .ref pc]) = I5 at s5 g5 ⊢
    have j5 := j4.trans s5
    have A4_5 := B4.same s5
    have B5 := A4_5.add (vl_of (tup_of g5) (allc (da.same j5) (allc (db.same j5) (allc (dc.same j5) (allc (dc.same j5) all0)))) (by show 4 ≤ 10; decide))
    refine ⟨_, rfl, _, rfl, _, rfl, pc, _, 0, .int c3.num, rfl, rfl, Same.tup j5 h3, rfl, _, rfl, _, _, rfl, rfl, _, rfl, pc, _, 1, .int (c3.den : Int), rfl, rfl, Same.tup j5 h3, rfl, (by show 2 ≤ sizeLine; decide), fun t5 nt5 => ?_⟩
    have s6 := Same.new (H := I5) (p := t5) (o := .tup [.int (c3.num + k), .int ((c3.den : Int))]) nt5
    have g6 : upd I5 t5 (.tup [.int (c3.num + k), .int ((c3.den : Int))]) t5 = some (.tup [.int (c3.num + k), .int ((c3.den : Int))]) := upd_same
    generalize upd I5 t5 (.tup [.int (c3.num + k), .int ((c3.den : Int))]) = I6 at s6 g6 ⊢
    have j6 := j5.trans s6
    have A5_6 := B5.same s6
    refine ⟨(by show 3 ≤ sizeLine; decide), fun t6 nt6 => ?_⟩
    have s7 := Same.new (H := I6) (p := t6) (o := .tup [.ref pa, .ref pb, .ref t5]) nt6
    have g7 : upd I6 t6 (.tup [.ref pa, .ref pb, .ref t5]) t6 = some (.tup [.ref pa, .ref pb, .ref t5]) := upd_same
    generalize upd I6 t6 (.tup [.ref pa, .ref pb, .ref t5]) = I7 at s7 g7 ⊢
    have j7 := j6.trans s7
    have A5_7 := A5_6.same s7
    have B6 := A5_7.add (vl_of (tup_of g7) (allc (da.same j7) (allc (db.same j7) (allc (SdE.same (s7) (sd_i (tup_of (Same.refl _ _ _ g6)) (((b3.n).add kB).up (by decide)) ((b3.d).up (by decide)))) all0))) (by show 3 ≤ 10; decide))
    refine ⟨_, rfl, pa, _, 0, .int c1.num, rfl, rfl, Same.tup j7 h1, rfl, _, rfl, _, rfl, pa, _, 1, .int (c1.den : Int), rfl, rfl, Same.tup j7 h1, rfl, (by show 2 ≤ sizeLine; decide), fun t7 nt7 => ?_⟩
    have s8 := Same.new (H := I7) (p := t7) (o := .tup [.int (-c1.num), .int ((c1.den : Int))]) nt7
    have g8 : upd I7 t7 (.tup [.int (-c1.num), .int ((c1.den : Int))]) t7 = some (.tup [.int (-c1.num), .int ((c1.den : Int))]) := upd_same
    generalize upd I7 t7 (.tup [.int (-c1.num), .int ((c1.den : Int))]) = I8 at s8 g8 ⊢
    have j8 := j7.trans s8
    have A6_8 := B6.same s8
    refine ⟨_, rfl, pb, _, 0, .int c2.num, rfl, rfl, Same.tup j8 h2, rfl, _, rfl, _, rfl, pb, _, 1, .int (c2.den : Int), rfl, rfl, Same.tup j8 h2, rfl, (by show 2 ≤ sizeLine; decide), fun t8 nt8 => ?_⟩
    have s9 := Same.new (H := I8) (p := t8) (o := .tup [.int (-c2.num), .int ((c2.den : Int))]) nt8
    have g9 : upd I8 t8 (.tup [.int (-c2.num), .int ((c2.den : Int))]) t8 = some (.tup [.int (-c2.num), .int ((c2.den : Int))]) := upd_same
    generalize upd I8 t8 (.tup [.int (-c2.num), .int ((c2.den : Int))]) = I9 at s9 g9 ⊢
    have j9 := j8.trans s9
    have A6_9 := A6_8.same s9
    refine ⟨_, rfl, (by show 3 ≤ sizeLine; decide), fun t9 nt9 => ?_⟩
    have s10 := Same.new (H := I9) (p := t9) (o := .tup [.ref t7, .ref t8, .ref pc]) nt9
    have g10 : upd I9 t9 (.tup [.ref t7, .ref t8, .ref pc]) t9 = some (.tup [.ref t7, .ref t8, .ref pc]) := upd_same
    generalize upd I9 t9 (.tup [.ref t7, .ref t8, .ref pc]) = I10 at s10 g10 ⊢
    have j10 := j9.trans s10
    have A6_10 := A6_9.same s10
    have B7 := A6_10.add (vl_of (tup_of g10) (allc (SdE.same (s9.trans (s10)) (sd_i (tup_of (Same.refl _ _ _ g8)) ((b1.n).neg.up (by decide)) ((b1.d).up (by decide)))) (allc (SdE.same (s10) (sd_i (tup_of (Same.refl _ _ _ g9)) ((b2.n).neg.up (by decide)) ((b2.d).up (by decide)))) (allc (dc.same j10) all0))) (by show 3 ≤ 10; decide))
    refine ⟨(by show 7 ≤ sizeLine; decide), fun t10 nt10 => ?_⟩
    have s11 := Same.new (H := I10) (p := t10) (o := .lst [.ref t0, .ref t1, .ref t2, .ref t3, .ref t4, .ref t6, .ref t9]) nt10
    have g11 : upd I10 t10 (.lst [.ref t0, .ref t1, .ref t2, .ref t3, .ref t4, .ref t6, .ref t9]) t10 = some (.lst [.ref t0, .ref t1, .ref t2, .ref t3, .ref t4, .ref t6, .ref t9]) := upd_same
    generalize upd I10 t10 (.lst [.ref t0, .ref t1, .ref t2, .ref t3, .ref t4, .ref t6, .ref t9]) = I11 at s11 g11 ⊢
    have j11 := j10.trans s11
    have A7_11 := B7.same s11
    first | refine sigN [some (.ref m), some (.int (N)), some (.ref p), some (.ref pa), some (.ref pb), some (.ref pc), some (.int (k)), some (.ref t10)] (by rfl) ?_ | refine sig [some (.ref m), some (.int (N)), some (.ref p), some (.ref pa), some (.ref pb), some (.ref pc), some (.int (k)), some (.ref t10)] (by rfl) ?_
    refine ⟨_, rfl, _, rfl, pa, _, 0, .int c1.num, rfl, rfl, Same.tup j11 h1, rfl, _, _, rfl, rfl, Or.inr ⟨by decide, by decide⟩, _, rfl, pa, _, 1, .int (c1.den : Int), rfl, rfl, Same.tup j11 h1, rfl, _, _, rfl, rfl, Or.inr ⟨by decide, by decide⟩, (by show 2 ≤ sizeLine; decide), fun t11 nt11 => ?_⟩
    have s12 := Same.new (H := I11) (p := t11) (o := .tup [.int (c1.num * 2), .int ((c1.den : Int) * 2)]) nt11
    have g12 : upd I11 t11 (.tup [.int (c1.num * 2), .int ((c1.den : Int) * 2)]) t11 = some (.tup [.int (c1.num * 2), .int ((c1.den : Int) * 2)]) := upd_same
    generalize upd I11 t11 (.tup [.int (c1.num * 2), .int ((c1.den : Int) * 2)]) = I12 at s12 g12 ⊢
    have j12 := j11.trans s12
    have A7_12 := A7_11.same s12
    refine ⟨_, rfl, _, rfl, (by show 3 ≤ sizeLine; decide), fun t12 nt12 => ?_⟩
    have s13 := Same.new (H := I12) (p := t12) (o := .tup [.ref t11, .ref pb, .ref pc]) nt12
    have g13 : upd I12 t12 (.tup [.ref t11, .ref pb, .ref pc]) t12 = some (.tup [.ref t11, .ref pb, .ref pc]) := upd_same
    generalize upd I12 t12 (.tup [.ref t11, .ref pb, .ref pc]) = I13 at s13 g13 ⊢
    have j13 := j12.trans s13
    have A7_13 := A7_12.same s13
    have B8 := A7_13.add (vl_of (tup_of g13) (allc (SdE.same (s13) (sd_i (tup_of (Same.refl _ _ _ g12)) (((b1.n).mul (B.lit (n := 2) (x := 2) (by decide))).up (by decide)) (((b1.d).mul (B.lit (n := 2) (x := 2) (by decide))).up (by decide)))) (allc (db.same j13) (allc (dc.same j13) all0))) (by show 3 ≤ 10; decide))
    refine ⟨_, rfl, _, rfl, _, rfl, pc, _, 0, .int c3.num, rfl, rfl, Same.tup j13 h3, rfl, _, rfl, _, rfl, pc, _, 1, .int (c3.den : Int), rfl, rfl, Same.tup j13 h3, rfl, (by show 2 ≤ sizeLine; decide), fun t13 nt13 => ?_⟩
    have s14 := Same.new (H := I13) (p := t13) (o := .tup [.int (-c3.num), .int ((c3.den : Int))]) nt13
    have g14 : upd I13 t13 (.tup [.int (-c3.num), .int ((c3.den : Int))]) t13 = some (.tup [.int (-c3.num), .int ((c3.den : Int))]) := upd_same
    generalize upd I13 t13 (.tup [.int (-c3.num), .int ((c3.den : Int))]) = I14 at s14 g14 ⊢
    have j14 := j13.trans s14
    have A8_14 := B8.same s14
    refine ⟨(by show 3 ≤ sizeLine; decide), fun t14 nt14 => ?_⟩
    have s15 := Same.new (H := I14) (p := t14) (o := .tup [.ref pa, .ref pb, .ref t13]) nt14
    have g15 : upd I14 t14 (.tup [.ref pa, .ref pb, .ref t13]) t14 = some (.tup [.ref pa, .ref pb, .ref t13]) := upd_same
    generalize upd I14 t14 (.tup [.ref pa, .ref pb, .ref t13]) = I15 at s15 g15 ⊢
    have j15 := j14.trans s15
    have A8_15 := A8_14.same s15
    have B9 := A8_15.add (vl_of (tup_of g15) (allc (da.same j15) (allc (db.same j15) (allc (SdE.same (s15) (sd_i (tup_of (Same.refl _ _ _ g14)) ((b3.n).neg.up (by decide)) ((b3.d).up (by decide)))) all0))) (by show 3 ≤ 10; decide))
    refine ⟨_, rfl, _, rfl, (by show 2 ≤ sizeLine; decide), fun t15 nt15 => ?_⟩
    have s16 := Same.new (H := I15) (p := t15) (o := .tup [.int k, .int 1]) nt15
    have g16 : upd I15 t15 (.tup [.int k, .int 1]) t15 = some (.tup [.int k, .int 1]) := upd_same
    generalize upd I15 t15 (.tup [.int k, .int 1]) = I16 at s16 g16 ⊢
    have j16 := j15.trans s16
    have A9_16 := B9.same s16
    rw [← fq_int] at g16
    refine ⟨pa, t15, c1, (k : Rat), _, _, rfl, Same.tup j16 h1, tup_of g16, b1, kR, by decide, trivial, fun t16 nt16 => ?_⟩
    have s17 := Same.new (H := I16) (p := t16) (o := .tup (fq (c1 * (k : Rat)))) nt16
    have g17 : upd I16 t16 (.tup (fq (c1 * (k : Rat)))) t16 = some (.tup (fq (c1 * (k : Rat)))) := upd_same
    generalize upd I16 t16 (.tup (fq (c1 * (k : Rat)))) = I17 at s17 g17 ⊢
    have j17 := j16.trans s17
    have A9_17 := A9_16.same s17
    refine ⟨_, rfl, _, rfl, (by show 2 ≤ sizeLine; decide), fun t17 nt17 => ?_⟩
    have s18 := Same.new (H := I17) (p := t17) (o := .tup [.int k, .int 1]) nt17
    have g18 : upd I17 t17 (.tup [.int k, .int 1]) t17 = some (.tup [.int k, .int 1]) := upd_same
    generalize upd I17 t17 (.tup [.int k, .int 1]) = I18 at s18 g18 ⊢
    have j18 := j17.trans s18
    have A9_18 := A9_17.same s18
    rw [← fq_int] at g18
    refine ⟨pb, t17, c2, (k : Rat), _, _, rfl, Same.tup j18 h2, tup_of g18, b2, kR, by decide, kz, fun t18 nt18 => ?_⟩
    have s19 := Same.new (H := I18) (p := t18) (o := .tup (fq (c2 / (k : Rat)))) nt18
    have g19 : upd I18 t18 (.tup (fq (c2 / (k : Rat)))) t18 = some (.tup (fq (c2 / (k : Rat)))) := upd_same
    generalize upd I18 t18 (.tup (fq (c2 / (k : Rat)))) = I19 at s19 g19 ⊢
    have j19 := j18.trans s19
    have A9_19 := A9_18.same s19
    refine ⟨_, rfl, (by show 3 ≤ sizeLine; decide), fun t19 nt19 => ?_⟩
    have s20 := Same.new (H := I19) (p := t19) (o := .tup [.ref t16, .ref t18, .ref pc]) nt19
    have g20 : upd I19 t19 (.tup [.ref t16, .ref t18, .ref pc]) t19 = some (.tup [.ref t16, .ref t18, .ref pc]) := upd_same
    generalize upd I19 t19 (.tup [.ref t16, .ref t18, .ref pc]) = I20 at s20 g20 ⊢
    have j20 := j19.trans s20
    have A9_20 := A9_19.same s20
    have B10 := A9_20.add (vl_of (tup_of g20) (allc (SdE.same (s18.trans (s19.trans (s20))) (sd_q (tup_of (Same.refl _ _ _ g17)) ((RB.mul b1 kR).up (by decide)))) (allc (SdE.same (s20) (sd_q (tup_of (Same.refl _ _ _ g19)) ((RB.div kz b2 kR).up (by decide)))) (allc (dc.same j20) all0))) (by show 3 ≤ 10; decide))
    refine ⟨_, rfl, _, rfl, (by show 3 ≤ sizeLine; decide), fun t20 nt20 => ?_⟩
    have s21 := Same.new (H := I20) (p := t20) (o := .tup [.ref pa, .ref pb, .int 5]) nt20
    have g21 : upd I20 t20 (.tup [.ref pa, .ref pb, .int 5]) t20 = some (.tup [.ref pa, .ref pb, .int 5]) := upd_same
    generalize upd I20 t20 (.tup [.ref pa, .ref pb, .int 5]) = I21 at s21 g21 ⊢
    have j21 := j20.trans s21
    have A10_21 := B10.same s21
    have B11 := A10_21.add (vl_of (tup_of g21) (allc (da.same j21) (allc (db.same j21) (allc (⟨none, .int 5⟩) all0))) (by show 3 ≤ 10; decide))
    have B12 := B11.add (⟨none, .non⟩)
    refine ⟨(by show 5 ≤ sizeLine; decide), fun t21 nt21 => ?_⟩
    have s22 := Same.new (H := I21) (p := t21) (o := .lst [.ref t12, .ref t14, .ref t19, .ref t20, .non]) nt21
    have g22 : upd I21 t21 (.lst [.ref t12, .ref t14, .ref t19, .ref t20, .non]) t21 = some (.lst [.ref t12, .ref t14, .ref t19, .ref t20, .non]) := upd_same
    generalize upd I21 t21 (.lst [.ref t12, .ref t14, .ref t19, .ref t20, .non]) = I22 at s22 g22 ⊢
    have j22 := j21.trans s22
    have A12_22 := B12.same s22
    refine ⟨t10, t21, _, _, rfl, rfl, (s12.trans (s13.trans (s14.trans (s15.trans (s16.trans (s17.trans (s18.trans (s19.trans (s20.trans (s21.trans (s22))))))))))) _ _ g11, g22, (by show 12 ≤ sizeLine; decide), fun t22 nt22 => ?_⟩
    rw [show upd I22 t22 (.lst ([.ref t0, .ref t1, .ref t2, .ref t3, .ref t4, .ref t6, .ref t9] ++ [.ref t12, .ref t14, .ref t19, .ref t20, .non])) = upd I22 t22 (.lst [.ref t0, .ref t1, .ref t2, .ref t3, .ref t4, .ref t6, .ref t9, .ref t12, .ref t14, .ref t19, .ref t20, .non]) from rfl]
    have s23 := Same.new (H := I22) (p := t22) (o := .lst [.ref t0, .ref t1, .ref t2, .ref t3, .ref t4, .ref t6, .ref t9, .ref t12, .ref t14, .ref t19, .ref t20, .non]) nt22
    have g23 : upd I22 t22 (.lst [.ref t0, .ref t1, .ref t2, .ref t3, .ref t4, .ref t6, .ref t9, .ref t12, .ref t14, .ref t19, .ref t20, .non]) t22 = some (.lst [.ref t0, .ref t1, .ref t2, .ref t3, .ref t4, .ref t6, .ref t9, .ref t12, .ref t14, .ref t19, .ref t20, .non]) := upd_same
    generalize upd I22 t22 (.lst [.ref t0, .ref t1, .ref t2, .ref t3, .ref t4, .ref t6, .ref t9, .ref t12, .ref t14, .ref t19, .ref t20, .non]) = I23 at s23 g23 ⊢
    have j23 := j22.trans s23
    have A12_23 := A12_22.same s23
    first | refine sigN [some (.ref m), some (.int (N)), some (.ref p), some (.ref pa), some (.ref pb), some (.ref pc), some (.int (k)), some (.ref t22)] (by rfl) ?_ | refine sig [some (.ref m), some (.int (N)), some (.ref p), some (.ref pa), some (.ref pb), some (.ref pc), some (.int (k)), some (.ref t22)] (by rfl) ?_
    refine ⟨_, rfl, _, rfl, _, rfl, (by show 2 ≤ sizeLine; decide), fun t23 nt23 => ?_⟩
    have s24 := Same.new (H := I23) (p := t23) (o := .tup [.int k, .int 1]) nt23
    have g24 : upd I23 t23 (.tup [.int k, .int 1]) t23 = some (.tup [.int k, .int 1]) := upd_same
    generalize upd I23 t23 (.tup [.int k, .int 1]) = I24 at s24 g24 ⊢
    have j24 := j23.trans s24
    have A12_24 := A12_23.same s24
    rw [← fq_int] at g24
    refine ⟨pa, t23, c1, (k : Rat), _, _, rfl, Same.tup j24 h1, tup_of g24, b1, kR, by decide, trivial, fun t24 nt24 => ?_⟩
    have s25 := Same.new (H := I24) (p := t24) (o := .tup (fq (c1 * (k : Rat)))) nt24
    have g25 : upd I24 t24 (.tup (fq (c1 * (k : Rat)))) t24 = some (.tup (fq (c1 * (k : Rat)))) := upd_same
    generalize upd I24 t24 (.tup (fq (c1 * (k : Rat)))) = I25 at s25 g25 ⊢
    have j25 := j24.trans s25
    have A12_25 := A12_24.same s25
    refine ⟨_, rfl, _, rfl, (by show 2 ≤ sizeLine; decide), fun t25 nt25 => ?_⟩
    have s26 := Same.new (H := I25) (p := t25) (o := .tup [.int k, .int 1]) nt25
    have g26 : upd I25 t25 (.tup [.int k, .int 1]) t25 = some (.tup [.int k, .int 1]) := upd_same
    generalize upd I25 t25 (.tup [.int k, .int 1]) = I26 at s26 g26 ⊢
    have j26 := j25.trans s26
    have A12_26 := A12_25.same s26
    rw [← fq_int] at g26
    refine ⟨pb, t25, c2, (k : Rat), _, _, rfl, Same.tup j26 h2, tup_of g26, b2, kR, by decide, trivial, fun t26 nt26 => ?_⟩
    have s27 := Same.new (H := I26) (p := t26) (o := .tup (fq (c2 * (k : Rat)))) nt26
    have g27 : upd I26 t26 (.tup (fq (c2 * (k : Rat)))) t26 = some (.tup (fq (c2 * (k : Rat)))) := upd_same
    generalize upd I26 t26 (.tup (fq (c2 * (k : Rat)))) = I27 at s27 g27 ⊢
    have j27 := j26.trans s27
    have A12_27 := A12_26.same s27
    refine ⟨_, rfl, _, rfl, (by show 2 ≤ sizeLine; decide), fun t27 nt27 => ?_⟩
    have s28 := Same.new (H := I27) (p := t27) (o := .tup [.int k, .int 1]) nt27
    have g28 : upd I27 t27 (.tup [.int k, .int 1]) t27 = some (.tup [.int k, .int 1]) := upd_same
    generalize upd I27 t27 (.tup [.int k, .int 1]) = I28 at s28 g28 ⊢
    have j28 := j27.trans s28
    have A12_28 := A12_27.same s28
    rw [← fq_int] at g28
    refine ⟨pc, t27, c3, (k : Rat), _, _, rfl, Same.tup j28 h3, tup_of g28, b3, kR, by decide, trivial, fun t28 nt28 => ?_⟩
    have s29 := Same.new (H := I28) (p := t28) (o := .tup (fq (c3 * (k : Rat)))) nt28
    have g29 : upd I28 t28 (.tup (fq (c3 * (k : Rat)))) t28 = some (.tup (fq (c3 * (k : Rat)))) := upd_same
    generalize upd I28 t28 (.tup (fq (c3 * (k : Rat)))) = I29 at s29 g29 ⊢
    have j29 := j28.trans s29
    have A12_29 := A12_28.same s29
    refine ⟨(by show 3 ≤ sizeLine; decide), fun t29 nt29 => ?_⟩
    have s30 := Same.new (H := I29) (p := t29) (o := .tup [.ref t24, .ref t26, .ref t28]) nt29
    have g30 : upd I29 t29 (.tup [.ref t24, .ref t26, .ref t28]) t29 = some (.tup [.ref t24, .ref t26, .ref t28]) := upd_same
    generalize upd I29 t29 (.tup [.ref t24, .ref t26, .ref t28]) = I30 at s30 g30 ⊢
    have j30 := j29.trans s30
    have A12_30 := A12_29.same s30
    have B13 := A12_30.add (vl_of (tup_of g30) (allc (SdE.same (s26.trans (s27.trans (s28.trans (s29.trans (s30))))) (sd_q (tup_of (Same.refl _ _ _ g25)) ((RB.mul b1 kR).up (by decide)))) (allc (SdE.same (s28.trans (s29.trans (s30))) (sd_q (tup_of (Same.refl _ _ _ g27)) ((RB.mul b2 kR).up (by decide)))) (allc (SdE.same (s30) (sd_q (tup_of (Same.refl _ _ _ g29)) ((RB.mul b3 kR).up (by decide)))) all0))) (by show 3 ≤ 10; decide))
    refine ⟨_, rfl, _, rfl, (by show 2 ≤ sizeLine; decide), fun t30 nt30 => ?_⟩
    have s31 := Same.new (H := I30) (p := t30) (o := .tup [.bl true, .int 1]) nt30
    have g31 : upd I30 t30 (.tup [.bl true, .int 1]) t30 = some (.tup [.bl true, .int 1]) := upd_same
    generalize upd I30 t30 (.tup [.bl true, .int 1]) = I31 at s31 g31 ⊢
    have j31 := j30.trans s31
    have A13_31 := B13.same s31
    refine ⟨(by show 3 ≤ sizeLine; decide), fun t31 nt31 => ?_⟩
    have s32 := Same.new (H := I31) (p := t31) (o := .tup [.ref pa, .ref pb, .ref t30]) nt31
    have g32 : upd I31 t31 (.tup [.ref pa, .ref pb, .ref t30]) t31 = some (.tup [.ref pa, .ref pb, .ref t30]) := upd_same
    generalize upd I31 t31 (.tup [.ref pa, .ref pb, .ref t30]) = I32 at s32 g32 ⊢
    have j32 := j31.trans s32
    have A13_32 := A13_31.same s32
    have B14 := A13_32.add (vl_of (tup_of g32) (allc (da.same j32) (allc (db.same j32) (allc (SdE.same (s32) (⟨none, .bl t30 true 1 (tup_of (Same.refl _ _ _ g31))⟩)) all0))) (by show 3 ≤ 10; decide))
    have B15 := B14.add (vl_of (Same.tup j32 h0) (allc (da.same j32) (allc (db.same j32) (allc (dc.same j32) all0))) (by show 3 ≤ 10; decide))
    have B16 := B15.add (⟨none, .int 7⟩)
    refine ⟨_, rfl, (by show 0 ≤ sizeLine; decide), fun t32 nt32 => ?_⟩
    have s33 := Same.new (H := I32) (p := t32) (o := .tup []) nt32
    have g33 : upd I32 t32 (.tup []) t32 = some (.tup []) := upd_same
    generalize upd I32 t32 (.tup []) = I33 at s33 g33 ⊢
    have j33 := j32.trans s33
    have A16_33 := B16.same s33
    have B17 := A16_33.add (vl_of (tup_of g33) all0 (by show 0 ≤ 10; decide))
    refine ⟨(by show 5 ≤ sizeLine; decide), fun t33 nt33 => ?_⟩
    have s34 := Same.new (H := I33) (p := t33) (o := .lst [.ref t29, .ref t31, .ref p, .int 7, .ref t32]) nt33
    have g34 : upd I33 t33 (.lst [.ref t29, .ref t31, .ref p, .int 7, .ref t32]) t33 = some (.lst [.ref t29, .ref t31, .ref p, .int 7, .ref t32]) := upd_same
    generalize upd I33 t33 (.lst [.ref t29, .ref t31, .ref p, .int 7, .ref t32]) = I34 at s34 g34 ⊢
    have j34 := j33.trans s34
    have A17_34 := B17.same s34
    refine ⟨t22, t33, _, _, rfl, rfl, (s24.trans (s25.trans (s26.trans (s27.trans (s28.trans (s29.trans (s30.trans (s31.trans (s32.trans (s33.trans (s34))))))))))) _ _ g23, g34, (by show 17 ≤ sizeLine; decide), fun t34 nt34 => ?_⟩
    rw [show upd I34 t34 (.lst ([.ref t0, .ref t1, .ref t2, .ref t3, .ref t4, .ref t6, .ref t9, .ref t12, .ref t14, .ref t19, .ref t20, .non] ++ [.ref t29, .ref t31, .ref p, .int 7, .ref t32])) = upd I34 t34 (.lst [.ref t0, .ref t1, .ref t2, .ref t3, .ref t4, .ref t6, .ref t9, .ref t12, .ref t14, .ref t19, .ref t20, .non, .ref t29, .ref t31, .ref p, .int 7, .ref t32]) from rfl]
    have s35 := Same.new (H := I34) (p := t34) (o := .lst [.ref t0, .ref t1, .ref t2, .ref t3, .ref t4, .ref t6, .ref t9, .ref t12, .ref t14, .ref t19, .ref t20, .non, .ref t29, .ref t31, .ref p, .int 7, .ref t32]) nt34
    have g35 : upd I34 t34 (.lst [.ref t0, .ref t1, .ref t2, .ref t3, .ref t4, .ref t6, .ref t9, .ref t12, .ref t14, .ref t19, .ref t20, .non, .ref t29, .ref t31, .ref p, .int 7, .ref t32]) t34 = some (.lst [.ref t0, .ref t1, .ref t2, .ref t3, .ref t4, .ref t6, .ref t9, .ref t12, .ref t14, .ref t19, .ref t20, .non, .ref t29, .ref t31, .ref p, .int 7, .ref t32]) := upd_same
    generalize upd I34 t34 (.lst [.ref t0, .ref t1, .ref t2, .ref t3, .ref t4, .ref t6, .ref t9, .ref t12, .ref t14, .ref t19, .ref t20, .non, .ref t29, .ref t31, .ref p, .int 7, .ref t32]) = I35 at s35 g35 ⊢
    have j35 := j34.trans s35
    have A17_35 := A17_34.same s35
    first | refine sigN [some (.ref m), some (.int (N)), some (.ref p), some (.ref pa), some (.ref pb), some (.ref pc), some (.int (k)), some (.ref t34)] (by rfl) ?_ | refine sig [some (.ref m), some (.int (N)), some (.ref p), some (.ref pa), some (.ref pb), some (.ref pc), some (.int (k)), some (.ref t34)] (by rfl) ?_
    have bA := bm.trans (But.of j35)
    have mA := m0.same j35
    have key : AllV K I35 [.ref t0, .ref t1, .ref t2, .ref t3, .ref t4, .ref t6, .ref t9, .ref t12, .ref t14, .ref t19, .ref t20, .non, .ref t29, .ref t31, .ref p, .int 7, .ref t32] := A17_35
    refine ⟨_, rfl, _, rfl, m, cl, t34, _, n + 1, rfl, lst_of g35, (by show 0 < 17; decide), (by show 17 ≤ 1000; decide), by omega, mA, fun H' x b' m' hx => ?_⟩
    obtain ⟨o, ho⟩ := key x hx
    exact q _ x o (bA.trans b') m' (ho.but b' mA)
end
end K52
set_option Elab.async false
set_option linter.all false
set_option maxRecDepth 100000
set_option maxHeartbeats 4000000
namespace K52
open PySem PySem.Spec PyProof.Rows L2 Gd QM EcM EcP
local macro_rules | `(tactic| walk_at "mm") => `(tactic| (repeat (first | exact List.mem_cons_self | apply List.mem_cons_of_mem)))
/-! ### triangles and points as data -/
def dC (c : C3) : PyData := .tuple [dq c.1, dq c.2.1, dq c.2.2]
def dO : Option C3 → PyData
  | none => .none
  | some c => dC c
theorem dp_C {K : PySem.W.Frag} {H : Hp} {p : Addr} {c : C3} (h : TrT K H p c) : Dp K H (.ref p) (dC c) := by
  obtain ⟨a, b, d, h0, h1, h2, h3⟩ := h
  exact .tup h0 (.cons (dp_q h1) (.cons (dp_q h2) (.cons (dp_q h3) .nil)))
theorem dp_O {K : PySem.W.Frag} {H : Hp} {v : V} {c : Option C3} (h : TrO K H v c) : Dp K H v (dO c) := by
  match c, h with
  | none, h =>
    rw [show v = .non from h]
    exact .non
  | some c, ⟨p, h1, h2⟩ =>
    rw [h1]
    exact dp_C h2
structure CB (m : Nat) (c : C3) : Prop where
  b1 : RB m c.1
  b2 : RB m c.2.1
  b3 : RB m c.2.2
theorem C_ok {c : C3} (h : CB 1800 c) : okD (dC c) = true ∧ (dC c).depth ≤ 40 ∧ wt (dC c) ≤ 1000000 := by
  refine ⟨?_, ?_, ?_⟩
  · have e1 := okq h.b1 (by decide)
    have e2 := okq h.b2 (by decide)
    have e3 := okq h.b3 (by decide)
    simp [okD, okAll, dC, e1, e2, e3]
  · simp [PyData.depth, PyData.depthAll, dC, dq]
  · simp [wt, wtAll, dC, dq]
theorem O_ok {c : Option C3} (h : ∀ d, c = some d → CB 1800 d) : okD (dO c) = true ∧ (dO c).depth ≤ 40 ∧ wt (dO c) ≤ 1000000 := by
  match c, h with
  | none, _ => exact ⟨rfl, by decide, by decide⟩
  | some c, h => exact C_ok (h c rfl)
theorem P_ok {P : Pt} (h : PB 1800 P) : okD (dP P) = true ∧ (dP P).depth ≤ 40 ∧ wt (dP P) ≤ 1000000 := by
  match P, h with
  | none, _ => exact ⟨rfl, by decide, by decide⟩
  | some (x, y), ⟨h1, h2⟩ =>
    refine ⟨?_, ?_, ?_⟩
    · have e1 := okq h1 (by decide)
      have e2 := okq h2 (by decide)
      simp [okD, okAll, dP, e1, e2]
    · simp [PyData.depth, PyData.depthAll, dP, dq]
    · simp [wt, wtAll, dP, dq]
/-! ### signs -/
def Sg (s : Int) : Prop := s = 1 ∨ s = -1
theorem sg_fq {s : Int} (h : Sg s) (q : Rat) : [V.int (s * q.num), V.int (q.den : Int)] = fq ((s : Rat) * q) := by
  rcases h with rfl | rfl
  · rw [Int.one_mul, show (((1 : Int) : Rat)) = 1 from rfl, Rat.one_mul]
    rfl
  · rw [show ((-1 : Int) * q.num) = -q.num by omega, neg_fq]
    have : (((-1 : Int) : Rat)) * q = -q := by
      push_cast
      grind
    rw [this]
theorem sg_RB {s : Int} {q : Rat} {m : Nat} (h : Sg s) (b : RB m q) : RB m ((s : Rat) * q) := by
  rcases h with rfl | rfl
  · rw [show (((1 : Int) : Rat)) = 1 from rfl, Rat.one_mul]
    exact b
  · have : (((-1 : Int) : Rat)) * q = -q := by
      push_cast
      grind
    rw [this]
    exact b.neg
theorem sg_sq {s : Int} (h : Sg s) : (s : Rat) * (s : Rat) = 1 := by
  rcases h with rfl | rfl <;> decide +kernel
theorem qa_neg (q : Rat) : qa (-q) = qa q := by
  have h1 : qa (-q) * qa (-q) = qa q * qa q := by
    rw [qa_sq, qa_sq]
    grind
  exact sq_nn (nn_of (qa_num _)) (nn_of (qa_num _)) h1
theorem qa_sg {s : Int} (h : Sg s) (q : Rat) : qa ((s : Rat) * q) = qa q := by
  have h1 : qa ((s : Rat) * q) * qa ((s : Rat) * q) = qa q * qa q := by
    rw [qa_sq, qa_sq]
    have := sg_sq h
    grind
  exact sq_nn (nn_of (qa_num _)) (nn_of (qa_num _)) h1
theorem srt_sg {s o : Int} (h : Sg s) (k : Sg o) (a b c : Rat) : srt ((s : Rat) * a, (s : Rat) * b, (o : Rat) * c) = srt (a, b, c) := by
  unfold srt
  show (if bel (qa ((s : Rat) * a)) (qa ((s : Rat) * b)) then (qa ((s : Rat) * a), qa ((s : Rat) * b), qa ((o : Rat) * c)) else (qa ((s : Rat) * b), qa ((s : Rat) * a), qa ((o : Rat) * c))) = _
  rw [qa_sg h, qa_sg h, qa_sg k]
theorem srt_turn (a b c : Rat) : srt (b, a, c) = srt (a, b, c) := by
  unfold srt
  show (if bel (qa b) (qa a) then (qa b, qa a, qa c) else (qa a, qa b, qa c)) = (if bel (qa a) (qa b) then (qa a, qa b, qa c) else (qa b, qa a, qa c))
  by_cases h : bel (qa a) (qa b)
  · have h2 : ¬ bel (qa b) (qa a) := by
      unfold bel at *
      omega
    rw [if_pos h, if_neg h2]
  · rw [if_neg h]
    by_cases h2 : bel (qa b) (qa a)
    · rw [if_pos h2]
    · rw [if_neg h2, bel_eq h h2]
theorem tri_sg {n s o : Int} {a b c : Rat} (h : Tri n (a, b, c)) (hs : Sg s) (ho : Sg o) : Tri n ((s : Rat) * a, (s : Rat) * b, (o : Rat) * c) := by
  have h1 := sg_sq hs
  have h2 := sg_sq ho
  have e1 : a * a + b * b = c * c := h.s
  have e2 : a * b = ((2 * n : Int) : Rat) := h.p
  refine ⟨h.n0, ?_, ?_⟩
  · show (s : Rat) * a * ((s : Rat) * a) + (s : Rat) * b * ((s : Rat) * b) = (o : Rat) * c * ((o : Rat) * c)
    generalize (s : Rat) = s at *
    generalize (o : Rat) = o at *
    grind
  · show (s : Rat) * a * ((s : Rat) * b) = _
    rw [← e2]
    generalize (s : Rat) = s at *
    grind
theorem tpt_PB {n : Int} {c : C3} (hn : B 7 n) (h : Tri n c) (b : CB 11 c) : RB 42 (tpt n c).1 ∧ RB 64 (tpt n c).2 := by
  have nB : RB 8 ((n : Int) : Rat) := RB.int (hn.up (by decide)) (by decide)
  have nnB : RB 18 ((2 * n * n : Int) : Rat) := RB.int (((B.lit (n := 2) (x := 2) (by decide)).mul hn).mul hn |>.up (by decide)) (by decide)
  have s := b.b1.add b.b3
  exact ⟨(RB.div h.b0 (nB.mul s) b.b2).up (by decide), (RB.div (qmul_ne h.b0 h.b0) (nnB.mul s) (b.b2.mul b.b2)).up (by decide)⟩
section
variable {P : Program} {w : World} {K : PySem.W.Frag} {mg : Str → Option Value} {base : Heap}
theorem fq_sd {K : PySem.W.Frag} {H : Hp} {p : Addr} {s : Int} {q : Rat} (hs : Sg s) (h : H p = some (.tup [.int (s * q.num), .int (q.den : Int)])) : SqT K H p (fq ((s : Rat) * q)) := by
  rw [sg_fq hs] at h
  exact tup_of h
def sp_law_signs_right (K : PySem.W.Frag) : Sp := fun vs H Q _ => ∃ (mv : V) (p : Addr) (n : Int) (c : C3), vs = [mv, .int n, .ref p] ∧ B 7 n ∧ Tri n c ∧ CB 11 c ∧ TrT K H p c ∧ ∀ H', Same H H' → Q (.bl true) H'
abbrev s__law_signs_right : Stmt := topS 47
theorem sc__law_signs_right : FnScope ["m", "n", "triangle", "a", "b", "c", "sign", "other", "one", "two", "triple", "point"] ["m", "n", "triangle"] (defScope s__law_signs_right) := ⟨rfl, rfl, rfl, by decide +kernel, rfl, by decide +kernel, by decide +kernel⟩
theorem k_law_signs_right (T : Tx K mg) (D : Df K mg "_law_signs_right" s__law_signs_right ["m", "n", "triangle"]) (c_triangle_point : Kl P w K mg base 3 "triangle_point" (sp_triangle_point K)) (c_law_on : Kl P w K mg base 4 "_law_on" (sp_law_on K)) (c_triangle_of : Kl P w K mg base 3 "triangle_of" (sp_triangle_of K)) (c_law_triple : Kl P w K mg base 4 "_law_triple" (sp_law_triple K)) (c_law_point : Kl P w K mg base 4 "_law_point" (sp_law_point K)) (c_law_five : Kl P w K mg base 1 "_law_five" (sp_law_five K)) : Kg P w K mg base 5 "_law_signs_right" (sp_law_signs_right K) := by
  have nd := sc__law_signs_right.nd
  refine Kg.by_body D sc__law_signs_right (fun vs H Q E h => ?_) (fun f cdv A outer s H vs Q E hgd hr h => ?_)
  · obtain ⟨_, _, _, _, rfl, _⟩ := h
    rfl
  · obtain ⟨mv, p, n, ⟨a, b, c⟩, rfl, hn, hT, hC, hp, q⟩ := h
    have hu1 := hu_of hr
    refine ⟨_, (pss_cons (ps_asg (pv 2) (pg_tup rfl (pgs_cons (pg_name (i := 3) nd rfl (by first | exact Or.inl rfl | exact Or.inr rfl)) (pgs_cons (pg_name (i := 4) nd rfl (by first | exact Or.inl rfl | exact Or.inr rfl)) (pgs_cons (pg_name (i := 5) nd rfl (by first | exact Or.inl rfl | exact Or.inr rfl)) pgs_nil)))))
      (pss_cons (ps_for PassesOwn.never rfl (pi_tup (pe_tup (pa_cons (pe_tup (pa_cons pe_int (pa_cons pe_int pa_nil))) (pa_cons (pe_tup (pa_cons pe_int (pa_cons (pe_un un_neg pe_int) pa_nil))) (pa_cons (pe_tup (pa_cons (pe_un un_neg pe_int) (pa_cons pe_int pa_nil))) (pa_cons (pe_tup (pa_cons (pe_un un_neg pe_int) (pa_cons (pe_un un_neg pe_int) pa_nil))) pa_nil)))))) (pg_tup rfl (pgs_cons (pg_name (i := 6) nd rfl (by first | exact Or.inl rfl | exact Or.inr rfl)) (pgs_cons (pg_name (i := 7) nd rfl (by first | exact Or.inl rfl | exact Or.inr rfl)) pgs_nil))) (pss_one (ps_for PassesOwn.never rfl (pi_tup (pe_tup (pa_cons (pe_tup (pa_cons (pv 3) (pa_cons (pv 4) pa_nil))) (pa_cons (pe_tup (pa_cons (pv 4) (pa_cons (pv 3) pa_nil))) pa_nil)))) (pg_tup rfl (pgs_cons (pg_name (i := 8) nd rfl (by first | exact Or.inl rfl | exact Or.inr rfl)) (pgs_cons (pg_name (i := 9) nd rfl (by first | exact Or.inl rfl | exact Or.inr rfl)) pgs_nil))) (pss_cons (ps_set (i := 10) nd rfl (by first | exact Or.inl rfl | exact Or.inr rfl) (pe_tup (pa_cons (pe_tup (pa_cons (pe_op op_mulW (pv 6) (pe_ix ix_tup (pv 8) pe_int (fun _ _ => rfl))) (pa_cons (pe_ix ix_tup (pv 8) pe_int (fun _ _ => rfl)) pa_nil))) (pa_cons (pe_tup (pa_cons (pe_op op_mulW (pv 6) (pe_ix ix_tup (pv 9) pe_int (fun _ _ => rfl))) (pa_cons (pe_ix ix_tup (pv 9) pe_int (fun _ _ => rfl)) pa_nil))) (pa_cons (pe_tup (pa_cons (pe_op op_mulW (pv 7) (pe_ix ix_tup (pv 5) pe_int (fun _ _ => rfl))) (pa_cons (pe_ix ix_tup (pv 5) pe_int (fun _ _ => rfl)) pa_nil))) pa_nil)))))
      (pss_cons (ps_set (i := 11) nd rfl (by first | exact Or.inl rfl | exact Or.inr rfl) (pe_k c_triangle_point  hr (by decide) (by rfl) (pa_cons (pv 1) (pa_cons (pv 10) pa_nil))))
      (pss_cons (ps_if (PW.pt (pw_or (pt_cmpR op_ne (pe_callB (call_reprD hgd hr.units) (by rfl) T.repr (by decide +kernel) (pa_cons (pv 11) pa_nil)) (pe_callB (call_reprD hgd hr.units) (by rfl) T.repr (by decide +kernel) (pa_cons (pe_k c_law_point  hr (by decide) (by rfl) (pa_cons (pv 1) (pa_cons (pv 10) pa_nil))) pa_nil)) (nomark _)) (pw_or1 (pt_not (pt_val (pe_k c_law_on  hr (by decide) (by rfl) (pa_cons (pe_k c_law_five  hr (by decide) (by rfl) (pa_cons (pe_tup (pa_cons pe_int (pa_cons (pe_op op_mulW (pe_un un_neg (pv 1)) (pv 1)) (pa_cons pe_int pa_nil)))) pa_nil)) (pa_cons (pv 11) pa_nil)))))))) (pss_one (ps_ret pe_bl)) pss_nil)
      (pss_one (ps_if (pt_cmpR op_ne (pe_callB (call_reprD hgd hr.units) (by rfl) T.repr (by decide +kernel) (pa_cons (pe_k c_triangle_of  hr (by decide) (by rfl) (pa_cons (pv 1) (pa_cons (pv 11) pa_nil))) pa_nil)) (pe_callB (call_reprD hgd hr.units) (by rfl) T.repr (by decide +kernel) (pa_cons (pe_k c_law_triple  hr (by decide) (by rfl) (pa_cons (pv 1) (pa_cons (pe_k c_law_point  hr (by decide) (by rfl) (pa_cons (pv 1) (pa_cons (pv 2) pa_nil))) pa_nil))) pa_nil)) (nomark _)) (pss_one (ps_ret pe_bl)) pss_nil))))))))
      (pss_one (ps_ret pe_bl)))), ?_⟩
    have hn8 : B 8 n := hn.up (by decide)
    obtain ⟨b1, b2, b3⟩ := hC
    replace b1 : RB 11 a := b1
    replace b2 : RB 11 b := b2
    replace b3 : RB 11 c := b3
    obtain ⟨pa, pb, pc, h0, h1, h2, h3⟩ := hp
    replace h1 : SqT K H pa (fq a) := h1
    replace h2 : SqT K H pb (fq b) := h2
    replace h3 : SqT K H pc (fq c) := h3
    have hpT : TrT K H p (a, b, c) := ⟨pa, pb, pc, h0, h1, h2, h3⟩
    refine ⟨_, rfl, p, _, rfl, h0, rfl, _, _, rfl, _, _, rfl, _, _, rfl, rfl, ?_⟩
    first | refine sigN [some mv, some (.int (n)), some (.ref p), some (.ref pa), some (.ref pb), some (.ref pc), none, none, none, none, none, none] (by rfl) ?_ | refine sig [some mv, some (.int (n)), some (.ref p), some (.ref pa), some (.ref pb), some (.ref pc), none, none, none, none, none, none] (by rfl) ?_
    refine ⟨(by show 2 ≤ sizeLine; decide), fun t1 n1 => ?_⟩
    have s1 := Same.new (H := H) (p := t1) (o := .tup [.int 1, .int 1]) n1
    have g1 : upd H t1 (.tup [.int 1, .int 1]) t1 = some (.tup [.int 1, .int 1]) := upd_same
    generalize upd H t1 (.tup [.int 1, .int 1]) = I1 at s1 g1 ⊢
    refine ⟨_, rfl, (by show 2 ≤ sizeLine; decide), fun t2 n2 => ?_⟩
    rw [show upd I1 t2 (.tup [.int 1, (fun i : Int => V.int (-i)) 1]) = upd I1 t2 (.tup [.int 1, .int (-1)]) from rfl]
    have s2 := Same.new (H := I1) (p := t2) (o := .tup [.int 1, .int (-1)]) n2
    have g2 : upd I1 t2 (.tup [.int 1, .int (-1)]) t2 = some (.tup [.int 1, .int (-1)]) := upd_same
    generalize upd I1 t2 (.tup [.int 1, .int (-1)]) = I2 at s2 g2 ⊢
    refine ⟨_, rfl, (by show 2 ≤ sizeLine; decide), fun t3 n3 => ?_⟩
    rw [show upd I2 t3 (.tup [(fun i : Int => V.int (-i)) 1, .int 1]) = upd I2 t3 (.tup [.int (-1), .int 1]) from rfl]
    have s3 := Same.new (H := I2) (p := t3) (o := .tup [.int (-1), .int 1]) n3
    have g3 : upd I2 t3 (.tup [.int (-1), .int 1]) t3 = some (.tup [.int (-1), .int 1]) := upd_same
    generalize upd I2 t3 (.tup [.int (-1), .int 1]) = I3 at s3 g3 ⊢
    refine ⟨_, rfl, _, rfl, (by show 2 ≤ sizeLine; decide), fun t4 n4 => ?_⟩
    rw [show upd I3 t4 (.tup [(fun i : Int => V.int (-i)) 1, (fun i : Int => V.int (-i)) 1]) = upd I3 t4 (.tup [.int (-1), .int (-1)]) from rfl]
    have s4 := Same.new (H := I3) (p := t4) (o := .tup [.int (-1), .int (-1)]) n4
    have g4 : upd I3 t4 (.tup [.int (-1), .int (-1)]) t4 = some (.tup [.int (-1), .int (-1)]) := upd_same
    generalize upd I3 t4 (.tup [.int (-1), .int (-1)]) = I4 at s4 g4 ⊢
    refine ⟨(by show 4 ≤ sizeLine; decide), fun t5 n5 => ?_⟩
    have s5 := Same.new (H := I4) (p := t5) (o := .tup [.ref t1, .ref t2, .ref t3, .ref t4]) n5
    have g5 : upd I4 t5 (.tup [.ref t1, .ref t2, .ref t3, .ref t4]) t5 = some (.tup [.ref t1, .ref t2, .ref t3, .ref t4]) := upd_same
    generalize upd I4 t5 (.tup [.ref t1, .ref t2, .ref t3, .ref t4]) = I5 at s5 g5 ⊢
    have j0 : Same H I5 := s1.trans (s2.trans (s3.trans (s4.trans s5)))
    have hall : ∀ (i : Nat) (x : V), [V.ref t1, .ref t2, .ref t3, .ref t4][i]? = some x → ∃ (t : Addr) (s o : Int), x = .ref t ∧ SqT K I5 t [.int s, .int o] ∧ Sg s ∧ Sg o := by
      intro i x hi
      have hx := List.mem_of_getElem? hi
      simp only [List.mem_cons, List.not_mem_nil, or_false] at hx
      rcases hx with rfl | rfl | rfl | rfl
      · exact ⟨t1, 1, 1, rfl, tup_of ((s2.trans (s3.trans (s4.trans s5))) _ _ g1), .inl rfl, .inl rfl⟩
      · exact ⟨t2, 1, -1, rfl, tup_of ((s3.trans (s4.trans s5)) _ _ g2), .inl rfl, .inr rfl⟩
      · exact ⟨t3, -1, 1, rfl, tup_of ((s4.trans s5) _ _ g3), .inr rfl, .inl rfl⟩
      · exact ⟨t4, -1, -1, rfl, tup_of (s5 _ _ g4), .inr rfl, .inr rfl⟩
    clear s1 s2 s3 s4 s5 g1 g2 g3 g4
    refine ⟨t5, rfl, ⟨_, tup_of g5⟩, for_tup (K := K) (a := t5) (xs := [.ref t1, .ref t2, .ref t3, .ref t4]) (fun i σ H2 => Same I5 H2 ∧ ∃ v1 v2 v3 v4 v5 v6 : Option V, σ = [some mv, some (.int n), some (.ref p), some (.ref pa), some (.ref pb), some (.ref pc), v1, v2, v3, v4, v5, v6]) ⟨Same.refl _, none, none, none, none, none, none, rfl⟩ (fun i σ H2 _ z => Same.tup z.1 (tup_of g5)) ?_ ?_⟩
    · rintro i x σ H2 hi ⟨j2, v1, v2, v3, v4, v5, v6, rfl⟩
      obtain ⟨t, s, o, rfl, ht, hs, ho⟩ := hall i x hi
      refine ⟨t, _, rfl, Same.tup j2 ht, rfl, _, _, rfl, _, _, rfl, rfl, ?_⟩
      first | refine sigN [some mv, some (.int (n)), some (.ref p), some (.ref pa), some (.ref pb), some (.ref pc), some (.int (s)), some (.int (o)), v3, v4, v5, v6] (by rfl) ?_ | refine sig [some mv, some (.int (n)), some (.ref p), some (.ref pa), some (.ref pb), some (.ref pc), some (.int (s)), some (.int (o)), v3, v4, v5, v6] (by rfl) ?_
      refine ⟨_, rfl, _, rfl, (by show 2 ≤ sizeLine; decide), fun u1 m1 => ?_⟩
      have r1 := Same.new (H := H2) (p := u1) (o := .tup [.ref pa, .ref pb]) m1
      have k1 : upd H2 u1 (.tup [.ref pa, .ref pb]) u1 = some (.tup [.ref pa, .ref pb]) := upd_same
      generalize upd H2 u1 (.tup [.ref pa, .ref pb]) = H3 at r1 k1 ⊢
      refine ⟨_, rfl, _, rfl, (by show 2 ≤ sizeLine; decide), fun u2 m2 => ?_⟩
      have r2 := Same.new (H := H3) (p := u2) (o := .tup [.ref pb, .ref pa]) m2
      have k2 : upd H3 u2 (.tup [.ref pb, .ref pa]) u2 = some (.tup [.ref pb, .ref pa]) := upd_same
      generalize upd H3 u2 (.tup [.ref pb, .ref pa]) = H4 at r2 k2 ⊢
      refine ⟨(by show 2 ≤ sizeLine; decide), fun u3 m3 => ?_⟩
      have r3 := Same.new (H := H4) (p := u3) (o := .tup [.ref u1, .ref u2]) m3
      have k3 : upd H4 u3 (.tup [.ref u1, .ref u2]) u3 = some (.tup [.ref u1, .ref u2]) := upd_same
      generalize upd H4 u3 (.tup [.ref u1, .ref u2]) = H5 at r3 k3 ⊢
      have j5 : Same H H5 := j0.trans (j2.trans (r1.trans (r2.trans r3)))
      have hall2 : ∀ (i : Nat) (x : V), [V.ref u1, .ref u2][i]? = some x → ∃ (t px py : Addr) (y z : Rat), x = .ref t ∧ SqT K H5 t [.ref px, .ref py] ∧ SqT K H px (fq y) ∧ SqT K H py (fq z) ∧ RB 11 y ∧ RB 11 z ∧ Tri n (y, z, c) ∧ srt (y, z, c) = srt (a, b, c) := by
        intro i x hi
        have hx := List.mem_of_getElem? hi
        simp only [List.mem_cons, List.not_mem_nil, or_false] at hx
        rcases hx with rfl | rfl
        · exact ⟨u1, pa, pb, a, b, rfl, tup_of ((r2.trans r3) _ _ k1), h1, h2, b1, b2, hT, rfl⟩
        · exact ⟨u2, pb, pa, b, a, rfl, tup_of (r3 _ _ k2), h2, h1, b2, b1, hT.swap, srt_turn a b c⟩
      have j25 : Same I5 H5 := j2.trans (r1.trans (r2.trans r3))
      clear k1 k2 r1 r2 r3 ht
      refine ⟨u3, rfl, ⟨_, tup_of k3⟩, for_tup (K := K) (a := u3) (xs := [.ref u1, .ref u2]) (fun i σ H6 => Same H5 H6 ∧ ∃ v3 v4 v5 v6 : Option V, σ = [some mv, some (.int n), some (.ref p), some (.ref pa), some (.ref pb), some (.ref pc), some (.int s), some (.int o), v3, v4, v5, v6]) ⟨Same.refl _, v3, v4, v5, v6, rfl⟩ (fun i σ H6 _ z => Same.tup z.1 (tup_of k3)) ?_ ?_⟩
      · rintro i2 x σ H6 hi2 ⟨j6, v3, v4, v5, v6, rfl⟩
        obtain ⟨t2, px, py, y, z, rfl, ht2, hpx, hpy, yB, zB, hTy, hsr⟩ := hall2 i2 x hi2
        refine ⟨t2, _, rfl, Same.tup j6 ht2, rfl, _, _, rfl, _, _, rfl, rfl, ?_⟩
        first | refine sigN [some mv, some (.int (n)), some (.ref p), some (.ref pa), some (.ref pb), some (.ref pc), some (.int (s)), some (.int (o)), some (.ref px), some (.ref py), v5, v6] (by rfl) ?_ | refine sig [some mv, some (.int (n)), some (.ref p), some (.ref pa), some (.ref pb), some (.ref pc), some (.int (s)), some (.int (o)), some (.ref px), some (.ref py), v5, v6] (by rfl) ?_
        have J6 : Same H H6 := j5.trans j6
        have sB : B 1 s := by
          unfold Gd.B
          rcases hs with rfl | rfl <;> decide
        have oB : B 1 o := by
          unfold Gd.B
          rcases ho with rfl | rfl <;> decide
        refine ⟨_, rfl, _, rfl, px, _, 0, .int y.num, rfl, rfl, Same.tup J6 hpx, rfl, _, _, rfl, rfl, sB.mulW yB.n (by decide), _, rfl, px, _, 1, .int (y.den : Int), rfl, rfl, Same.tup J6 hpx, rfl, (by show 2 ≤ sizeLine; decide), fun w1 x1 => ?_⟩
        have f1 := Same.new (H := H6) (p := w1) (o := .tup [.int (s * y.num), .int (y.den : Int)]) x1
        have e1 : upd H6 w1 (.tup [.int (s * y.num), .int (y.den : Int)]) w1 = some (.tup [.int (s * y.num), .int (y.den : Int)]) := upd_same
        generalize upd H6 w1 (.tup [.int (s * y.num), .int (y.den : Int)]) = H7 at f1 e1 ⊢
        have J7 := J6.trans f1
        refine ⟨_, rfl, _, rfl, py, _, 0, .int z.num, rfl, rfl, Same.tup J7 hpy, rfl, _, _, rfl, rfl, sB.mulW zB.n (by decide), _, rfl, py, _, 1, .int (z.den : Int), rfl, rfl, Same.tup J7 hpy, rfl, (by show 2 ≤ sizeLine; decide), fun w2 x2 => ?_⟩
        have f2 := Same.new (H := H7) (p := w2) (o := .tup [.int (s * z.num), .int (z.den : Int)]) x2
        have e2 : upd H7 w2 (.tup [.int (s * z.num), .int (z.den : Int)]) w2 = some (.tup [.int (s * z.num), .int (z.den : Int)]) := upd_same
        generalize upd H7 w2 (.tup [.int (s * z.num), .int (z.den : Int)]) = H8 at f2 e2 ⊢
        have J8 := J7.trans f2
        refine ⟨_, rfl, _, rfl, pc, _, 0, .int c.num, rfl, rfl, Same.tup J8 h3, rfl, _, _, rfl, rfl, oB.mulW b3.n (by decide), _, rfl, pc, _, 1, .int (c.den : Int), rfl, rfl, Same.tup J8 h3, rfl, (by show 2 ≤ sizeLine; decide), fun w3 x3 => ?_⟩
        have f3 := Same.new (H := H8) (p := w3) (o := .tup [.int (o * c.num), .int (c.den : Int)]) x3
        have e3 : upd H8 w3 (.tup [.int (o * c.num), .int (c.den : Int)]) w3 = some (.tup [.int (o * c.num), .int (c.den : Int)]) := upd_same
        generalize upd H8 w3 (.tup [.int (o * c.num), .int (c.den : Int)]) = H9 at f3 e3 ⊢
        refine ⟨(by show 3 ≤ sizeLine; decide), fun w4 x4 => ?_⟩
        have f4 := Same.new (H := H9) (p := w4) (o := .tup [.ref w1, .ref w2, .ref w3]) x4
        have e4 : upd H9 w4 (.tup [.ref w1, .ref w2, .ref w3]) w4 = some (.tup [.ref w1, .ref w2, .ref w3]) := upd_same
        generalize upd H9 w4 (.tup [.ref w1, .ref w2, .ref w3]) = Ha at f4 e4 ⊢
        have Ja := (J8.trans f3).trans f4
        have hw : TrT K Ha w4 ((s : Rat) * y, (s : Rat) * z, (o : Rat) * c) := ⟨w1, w2, w3, tup_of e4, fq_sd hs ((f2.trans (f3.trans f4)) _ _ e1), fq_sd hs ((f3.trans f4) _ _ e2), fq_sd ho (f4 _ _ e3)⟩
        have J6a : Same H6 Ha := f1.trans (f2.trans (f3.trans f4))
        have hTw : Tri n ((s : Rat) * y, (s : Rat) * z, (o : Rat) * c) := tri_sg hTy hs ho
        have hCw : CB 11 ((s : Rat) * y, (s : Rat) * z, (o : Rat) * c) := ⟨sg_RB hs yB, sg_RB hs zB, sg_RB ho b3⟩
        have hsw : srt ((s : Rat) * y, (s : Rat) * z, (o : Rat) * c) = srt (a, b, c) := (srt_sg hs ho y z c).trans hsr
        clear e1 e2 e3 f1 f2 f3 f4 J7 J8 hTy hsr
        generalize ((s : Rat) * y, (s : Rat) * z, (o : Rat) * c) = c' at hw hTw hCw hsw
        first | refine sigN [some mv, some (.int (n)), some (.ref p), some (.ref pa), some (.ref pb), some (.ref pc), some (.int (s)), some (.int (o)), some (.ref px), some (.ref py), some (.ref w4), v6] (by rfl) ?_ | refine sig [some mv, some (.int (n)), some (.ref p), some (.ref pa), some (.ref pb), some (.ref pc), some (.int (s)), some (.int (o)), some (.ref px), some (.ref py), some (.ref w4), v6] (by rfl) ?_
        obtain ⟨X42, Y64⟩ := tpt_PB hn hTw hCw
        refine ⟨_, rfl, _, rfl, n, w4, c', rfl, hn8, hw, hCw.b1.up (by decide), hCw.b2.up (by decide), hCw.b3.up (by decide), hTw.b0, fun po Hb fb hpo => ?_⟩
        first | refine sigN [some mv, some (.int (n)), some (.ref p), some (.ref pa), some (.ref pb), some (.ref pc), some (.int (s)), some (.int (o)), some (.ref px), some (.ref py), some (.ref w4), some (.ref po)] (by rfl) ?_ | refine sig [some mv, some (.int (n)), some (.ref p), some (.ref pa), some (.ref pb), some (.ref pc), some (.int (s)), some (.int (o)), some (.ref px), some (.ref py), some (.ref w4), some (.ref po)] (by rfl) ?_
        have hon := tpt_on hTw
        obtain ⟨k1, k2, k3'⟩ := P_ok (P := some (tpt n c')) ⟨X42.up (by decide), Y64.up (by decide)⟩
        refine ⟨_, rfl, .ref po, dP (some (tpt n c')), rfl, dp_pt hpo, k1, k2, k3', ?_⟩
        refine ⟨_, rfl, _, rfl, n, w4, c', rfl, hn8, hw.same fb, hCw.b1.up (by decide), hCw.b2.up (by decide), hCw.b3.up (by decide), hTw.b0, fun pq Hc fc hpq => ?_⟩
        refine ⟨.ref pq, dP (some (tpt n c')), rfl, dp_pt hpq, k1, k2, k3', rfl, _, rfl, ?_⟩
        generalize (dP (some (tpt n c'))).shown = zz
        refine iteNS rfl ?_
        refine ⟨_, rfl, _, rfl, _, rfl, _, _, rfl, rfl, hn.neg.mulW hn (by decide), (by show 3 ≤ sizeLine; decide), fun z1 nz1 => ?_⟩
        have fd := Same.new (H := Hc) (p := z1) (o := .tup [.int 0, .int (-n * n), .int 0]) nz1
        have gz1 : upd Hc z1 (.tup [.int 0, .int (-n * n), .int 0]) z1 = some (.tup [.int 0, .int (-n * n), .int 0]) := upd_same
        generalize upd Hc z1 (.tup [.int 0, .int (-n * n), .int 0]) = Hd at fd gz1 ⊢
        refine ⟨z1, 0, -n * n, 0, rfl, tup_of gz1, fun z2 nz2 => ?_⟩
        have fe := Same.new (H := Hd) (p := z2) (o := .tup [.int 0, .int 0, .int 0, .int (-n * n), .int 0]) nz2
        have gz2 : upd Hd z2 (.tup [.int 0, .int 0, .int 0, .int (-n * n), .int 0]) z2 = some (.tup [.int 0, .int 0, .int 0, .int (-n * n), .int 0]) := upd_same
        generalize upd Hd z2 (.tup [.int 0, .int 0, .int 0, .int (-n * n), .int 0]) = He at fe gz2 ⊢
        have hfv : FivT K He z2 (en n) := tup_of gz2
        have hpoe := hpo.same (fc.trans (fd.trans fe))
        refine ⟨_, rfl, z2, po, en n, some (tpt n c'), rfl, hfv, en_bd hn, hpoe, hon, HB.up (h := 42) (k := 200) X42 (by decide), fun Hf ff => ?_⟩
        refine ⟨_, rfl, iteF ?_⟩
        have hpof := hpoe.same ff
        have TBp : TB (some (tpt n c')) := ⟨X42.up (by decide), Y64.up (by decide)⟩
        refine ⟨_, rfl, _, rfl, n, po, some (tpt n c'), rfl, hn8, hpof, TBp, fun vv Hg fg hvv => ?_⟩
        rw [told_tpt hTw, hsw] at hvv
        have hCs : CB 11 (srt (a, b, c)) := by
          unfold srt
          split
          · exact ⟨qa_RB b1, qa_RB b2, qa_RB b3⟩
          · exact ⟨qa_RB b2, qa_RB b1, qa_RB b3⟩
        obtain ⟨k4, k5, k6⟩ := C_ok (c := srt (a, b, c)) ⟨hCs.b1.up (by decide), hCs.b2.up (by decide), hCs.b3.up (by decide)⟩
        refine ⟨vv, dC (srt (a, b, c)), rfl, dp_O hvv, k4, k5, k6, ?_⟩
        have Jg : Same H Hg := Ja.trans (fb.trans (fc.trans (fd.trans (fe.trans (ff.trans fg)))))
        obtain ⟨X42', Y64'⟩ := tpt_PB hn hT ⟨b1, b2, b3⟩
        refine ⟨_, rfl, _, rfl, _, rfl, n, p, (a, b, c), rfl, hn8, hpT.same Jg, b1.up (by decide), b2.up (by decide), b3.up (by decide), hT.b0, fun ph Hh fh hph => ?_⟩
        refine ⟨n, ph, some (tpt n (a, b, c)), rfl, hn8, hph, ⟨X42'.up (by decide), Y64'.up (by decide)⟩, fun v7 Hi fi hv7 => ?_⟩
        rw [told_tpt hT] at hv7
        refine ⟨v7, dC (srt (a, b, c)), rfl, dp_O hv7, k4, k5, k6, rfl, _, rfl, ?_⟩
        generalize (dC (srt (a, b, c))).shown = zz2
        refine iteNS rfl ?_
        exact ⟨j6.trans (J6a.trans (fb.trans (fc.trans (fd.trans (fe.trans (ff.trans (fg.trans (fh.trans fi)))))))), _, _, _, _, rfl⟩
      · rintro σ H6 ⟨j6, v3, v4, v5, v6, rfl⟩
        exact ⟨j25.trans j6, _, _, _, _, _, _, rfl⟩
    · rintro σ H2 ⟨j2, v1, v2, v3, v4, v5, v6, rfl⟩
      exact q _ (j0.trans j2)
end
end K52
set_option Elab.async false
set_option linter.all false
set_option maxRecDepth 100000
set_option maxHeartbeats 4000000
namespace K52
open PySem PySem.Spec PyProof.Rows L2 Gd QM EcM EcP
local macro_rules | `(tactic| walk_at "mm") => `(tactic| (repeat (first | exact List.mem_cons_self | apply List.mem_cons_of_mem)))
theorem pt_but {K : PySem.W.Frag} {H H' : Hp} {m cl p : Addr} {n : Nat} {S : Pt} (b : But m H H') (M : MAt H m cl n) (h : PtT K H p S) : PtT K H' p S := by
  match S, h with
  | none, h => exact b.seqT M h
  | some (x, y), ⟨a, c, h1, h2, h3⟩ => exact ⟨a, c, b.seqT M h1, b.seqT M h2, b.seqT M h3⟩
theorem tr_but {K : PySem.W.Frag} {H H' : Hp} {m cl p : Addr} {n : Nat} {c : C3} (b : But m H H') (M : MAt H m cl n) (h : TrT K H p c) : TrT K H' p c := by
  obtain ⟨x, y, z, h1, h2, h3, h4⟩ := h
  exact ⟨x, y, z, b.seqT M h1, b.seqT M h2, b.seqT M h3, b.seqT M h4⟩
theorem dpI {K : PySem.W.Frag} {H : Hp} {t : Addr} {x y z : Int} (h : SqT K H t [.int x, .int y, .int z]) : Dp K H (.ref t) (.tuple [.int x, .int y, .int z]) := .tup h (.cons (.int _) (.cons (.int _) (.cons (.int _) .nil)))
theorem I_ok {y : Int} (hy : B 20 y) : okD (.tuple [.int 0, .int y, .int 0]) = true ∧ (PyData.tuple [.int 0, .int y, .int 0]).depth ≤ 40 ∧ wt (.tuple [.int 0, .int y, .int 0]) ≤ 1000000 := by
  refine ⟨?_, ?_, ?_⟩
  · have e2 := hy.log (by decide)
    have e3 : (0 : Int).natAbs.log2 < 1920 := by decide
    simp [okD, okAll, e2]
  · simp [PyData.depth, PyData.depthAll]
  · simp [wt, wtAll]
/-! ### points of order two -/
theorem on_tor {n t : Int} (h : t = 0 ∨ t = n ∨ t = -n) : On (en n) (some ((t : Rat), 0)) := by
  show (0 : Rat) * 0 = (en n).f (t : Rat)
  rw [en_f]
  rcases h with rfl | rfl | rfl <;> push_cast <;> grind
theorem sum_z (e : Ec) (T : Pt) : sum e T none = T := by cases T <;> rfl
/-! ### the triangle that is told -/
def sdo (q : Rat) : Option (Int × Int) := some (q.num, (q.den : Int))
theorem isFr_sdo (q : Rat) : isFr (sdo q) = true := by
  show (decide (1 ≤ (q.den : Int)) && decide (Nat.gcd q.num.natAbs (q.den : Int).natAbs = 1)) = true
  have h1 := q.den_pos
  have h2 : Nat.gcd q.num.natAbs q.den = 1 := q.reduced
  rw [Bool.and_eq_true, decide_eq_true_iff, decide_eq_true_iff]
  exact ⟨by omega, h2⟩
theorem qv_sdo (q : Rat) : qv (sdo q) = q := by
  show Rat.divInt q.num (q.den : Int) = q
  exact Rat.num_divInt_den q
theorem isT_of {n : Int} {a b c : Rat} (h : Tri n (a, b, c)) (p : Pos (a, b, c)) : isT n (some [sdo a, sdo b, sdo c]) = true := by
  have e1 : a * a + b * b = c * c := h.s
  have e2 : a * b = ((2 * n : Int) : Rat) := h.p
  have p1 : 0 < a.num := p.a
  have p2 : 0 < b.num := p.b
  have p3 : 0 < c.num := p.c
  have g : ∀ q : Rat, 0 < q.num → ps (sdo q) = true := fun q hq => by
    unfold ps
    rw [isFr_sdo, Bool.true_and]
    exact decide_eq_true hq
  show ((ps (sdo a) && (ps (sdo b) && ps (sdo c))) && (decide (qv (sdo a) * qv (sdo a) + qv (sdo b) * qv (sdo b) = qv (sdo c) * qv (sdo c)) && decide (qv (sdo a) * qv (sdo b) = ((2 * n : Int) : Rat)))) = true
  rw [g a p1, g b p2, g c p3, qv_sdo, qv_sdo, qv_sdo, decide_eq_true e1, decide_eq_true e2]
  rfl
theorem vl3 {K : PySem.W.Frag} {H : Hp} {p x y z : Addr} {a b c : Rat} (h : SqT K H p [.ref x, .ref y, .ref z]) (h1 : SqT K H x (fq a)) (h2 : SqT K H y (fq b)) (h3 : SqT K H z (fq c)) (b1 : RB 900 a) (b2 : RB 900 b) (b3 : RB 900 c) : Vl K H (.ref p) (some [sdo a, sdo b, sdo c]) := by
  refine .tup p _ _ h ⟨rfl, fun i v hi => ?_⟩ (by show 3 ≤ 10; decide)
  rcases (show i = 0 ∨ i = 1 ∨ i = 2 ∨ 3 ≤ i by omega) with rfl | rfl | rfl | w
  · obtain rfl := Option.some.inj hi
    exact ⟨_, rfl, .pr x a.num _ h1 b1.n b1.d⟩
  · obtain rfl := Option.some.inj hi
    exact ⟨_, rfl, .pr y b.num _ h2 b2.n b2.d⟩
  · obtain rfl := Option.some.inj hi
    exact ⟨_, rfl, .pr z c.num _ h3 b3.n b3.d⟩
  · rw [List.getElem?_eq_none (by simpa using w)] at hi
    cases hi
theorem stp_is {n : Int} {a b c : Rat} (h : Tri n (a, b, c)) : stp (a, b, c) = (c / 2 * (c / 2) - (n : Rat), c / 2 * (c / 2), c / 2 * (c / 2) + (n : Rat)) := by
  have e1 : a * a + b * b = c * c := h.s
  have e2 : a * b = ((2 * n : Int) : Rat) := h.p
  rw [two_n] at e2
  show ((a - b) / 2 * ((a - b) / 2), c / 2 * (c / 2), (a + b) / 2 * ((a + b) / 2)) = _
  have h1 : (a - b) / 2 * ((a - b) / 2) = c / 2 * (c / 2) - (n : Rat) := by
    generalize (n : Rat) = n at *
    grind
  have h2 : (a + b) / 2 * ((a + b) / 2) = c / 2 * (c / 2) + (n : Rat) := by
    generalize (n : Rat) = n at *
    grind
  rw [h1, h2]
theorem stp_CB {n : Int} {c : C3} (hn : B 7 n) (h : Tri n c) (b : CB 789 c) : CB 1800 (stp c) := by
  obtain ⟨x, y, z⟩ := c
  rw [stp_is h]
  have t2 : (2 : Rat) ≠ 0 := by decide
  have nB : RB 7 ((n : Int) : Rat) := RB.int hn (by decide)
  have d : RB 791 (z / 2) := RB.div t2 b.b3 rb_two
  have s : RB 1582 (z / 2 * (z / 2)) := d.mul d
  exact ⟨(s.sub nB).up (by decide), s.up (by decide), (s.add nB).up (by decide)⟩
theorem ends_p : tpt 6 (Rat.divInt 3 1, Rat.divInt 4 1, Rat.divInt 5 1) = (12, 36) := by decide +kernel
theorem ends_t : told 5 (some (Rat.divInt 25 4, Rat.divInt 75 8)) = some (Rat.divInt 3 2, Rat.divInt 20 3, Rat.divInt 41 6) := by decide +kernel
def dE (p : Pt) (c : C3) : PyData := .list [dP p, dC c]
theorem eqv_E (x y : Rat) (c : C3) : PyData.eqv (dE (some (x, y)) c) (dE (some (x, y)) c) = true := by
  simp [dE, dC, dP, PyData.eqv, PyData.eqvAll, eqv_q]
theorem sh_E (x y : Rat) (c : C3) : SeqAt.shaped (dE (some (x, y)) c) = true := rfl
section
variable {P : Program} {w : World} {K : PySem.W.Frag} {mg : Str → Option Value} {base : Heap}
def sp_law (K : PySem.W.Frag) : Sp := fun vs H Q _ => ∃ (a : Addr) (ns : List Int), vs = [.ref a] ∧ SqL K H a (ns.map V.int) ∧ ns.length ≤ 63 ∧ ∀ H', Q (.bl true) H'
abbrev s_law : Stmt := topS 48
theorem sc_law : FnScope ["script", "turn", "m", "n", "triangle", "five", "two", "point", "due", "half", "squares", "f", "lap", "bent", "other", "told"] ["script"] (defScope s_law) := ⟨rfl, rfl, rfl, by decide +kernel, rfl, by decide +kernel, by decide +kernel⟩
theorem k_law {fl : Addr} {fdl : FuncData} (T : Tx K mg) (Fl : Fun K "law" "law" s_law fl fdl) (c_law_begun : Kl P w K mg base 1 "_law_begun" (sp_law_begun K)) (c_law_drawn : Kl P w K mg base 3 "_law_drawn" (sp_law_drawn K)) (c_law_five : Kl P w K mg base 1 "_law_five" (sp_law_five K)) (c_law_of : Kl P w K mg base 2 "_law_of" (sp_law_of K)) (c_law_sum : Kl P w K mg base 5 "_law_sum" (sp_law_sum K)) (c_law_triple : Kl P w K mg base 4 "_law_triple" (sp_law_triple K)) (c_triangle_point : Kl P w K mg base 3 "triangle_point" (sp_triangle_point K)) (c_triangle_of : Kl P w K mg base 3 "triangle_of" (sp_triangle_of K)) (c_law_times_of : Kl P w K mg base 7 "_law_times_of" (sp_law_times_of K)) (c_law_signs_right : Kg P w K mg base 5 "_law_signs_right" (sp_law_signs_right K)) (c_law_between : Kl P w K mg base 2 "_law_between" (sp_law_between K)) (c_law_point : Kl P w K mg base 4 "_law_point" (sp_law_point K)) (c_law_over : Kl P w K mg base 3 "_law_over" (sp_law_over K)) (c_law_bent_triple : Kl P w K mg base 4 "_law_bent_triple" (sp_law_bent_triple K)) (c_triangle_curve : Kl P w K mg base 1 "triangle_curve" (sp_triangle_curve K)) (c_is_triangle : Kl P w K mg base 3 "is_triangle" (sp_is_triangle K)) (c_law_less : Kl P w K mg base 3 "_law_less" (sp_law_less K)) (c_law_plus : Kl P w K mg base 3 "_law_plus" (sp_law_plus K)) (c_law_by : Kl P w K mg base 3 "_law_by" (sp_law_by K)) (c_law_is_triangle : Kl P w K mg base 4 "_law_is_triangle" (sp_law_is_triangle K)) (c_squares_in_steps : Kl P w K mg base 3 "squares_in_steps" (sp_squares_in_steps K)) : FnG P w K mg base 8 fl fdl ["script"] (sp_law K) := by
  have nd := sc_law.nd
  refine FnG.by_body Fl sc_law (fun vs H Q E h => ?_) (fun cdv A outer s H vs Q E hgd hr h => ?_)
  · obtain ⟨_, _, rfl, _⟩ := h
    rfl
  · obtain ⟨a, ns, rfl, hx, hl, q⟩ := h
    have hu1 := hu_of hr
    refine ⟨_, (pss_cons (ps_for PassesOwn.never rfl (pi_range1 (by rfl) T.range (pa_cons (pe_op op_add pe_int (pe_callTy call_int1 (by rfl) T.int (by decide +kernel) (pa_cons (pe_cmpR op_gt (pe_callB call_len_seq (by rfl) T.len (by decide +kernel) (pa_cons (pv 0) pa_nil)) pe_int (nomark _)) pa_nil))) pa_nil)) (pg_name (i := 1) nd rfl (by first | exact Or.inl rfl | exact Or.inr rfl)) (pss_cons (ps_set (i := 2) nd rfl (by first | exact Or.inl rfl | exact Or.inr rfl) (pe_k c_law_begun  hr (by decide) (by rfl) (pa_cons (pv 0) (pa_cons (pv 1) pa_nil))))
      (pss_cons (ps_asg (pe_k c_law_drawn  hr (by decide) (by rfl) (pa_cons (pv 2) pa_nil)) (pg_tup rfl (pgs_cons (pg_name (i := 3) nd rfl (by first | exact Or.inl rfl | exact Or.inr rfl)) (pgs_cons (pg_name (i := 4) nd rfl (by first | exact Or.inl rfl | exact Or.inr rfl)) pgs_nil))))
      (pss_cons (ps_set (i := 5) nd rfl (by first | exact Or.inl rfl | exact Or.inr rfl) (pe_k c_law_five  hr (by decide) (by rfl) (pa_cons (pe_tup (pa_cons pe_int (pa_cons (pe_op op_mulW (pe_un un_neg (pv 3)) (pv 3)) (pa_cons pe_int pa_nil)))) pa_nil)))
      (pss_cons (ps_if (PW.pt (pw_or (pt_cmpR op_ne (pe_callB (call_reprD hgd hr.units) (by rfl) T.repr (by decide +kernel) (pa_cons (pe_k c_triangle_curve  hr (by decide) (by rfl) (pa_cons (pv 3) pa_nil)) pa_nil)) (pe_callB (call_reprD hgd hr.units) (by rfl) T.repr (by decide +kernel) (pa_cons (pe_tup (pa_cons pe_int (pa_cons (pe_op op_mulW (pe_un un_neg (pv 3)) (pv 3)) (pa_cons pe_int pa_nil)))) pa_nil)) (nomark _)) (pw_or1 (pt_not (pt_val (pe_g c_law_signs_right hgd hr (by decide) (by rfl) (pa_cons (pv 2) (pa_cons (pv 3) (pa_cons (pv 4) pa_nil))))))))) (pss_one (ps_ret pe_bl)) pss_nil)
      (pss_cons (ps_set (i := 6) nd rfl (by first | exact Or.inl rfl | exact Or.inr rfl) (pe_k c_law_of  hr (by decide) (by rfl) (pa_cons (pv 2) (pa_cons (pe_lst (pa_cons (pe_tup pa_nil) (pa_cons (pe_tup (pa_cons (pe_tup (pa_cons pe_int (pa_cons pe_int pa_nil))) (pa_cons (pe_tup (pa_cons pe_int (pa_cons pe_int pa_nil))) pa_nil))) (pa_cons (pe_tup (pa_cons (pe_tup (pa_cons (pv 3) (pa_cons pe_int pa_nil))) (pa_cons (pe_tup (pa_cons pe_int (pa_cons pe_int pa_nil))) pa_nil))) (pa_cons (pe_tup (pa_cons (pe_tup (pa_cons (pe_un un_neg (pv 3)) (pa_cons pe_int pa_nil))) (pa_cons (pe_tup (pa_cons pe_int (pa_cons pe_int pa_nil))) pa_nil))) pa_nil))))) pa_nil))))
      (pss_cons (ps_set (i := 7) nd rfl (by first | exact Or.inl rfl | exact Or.inr rfl) (pe_k c_law_sum  hr (by decide) (by rfl) (pa_cons (pv 5) (pa_cons (pe_k c_law_times_of  hr (by decide) (by rfl) (pa_cons (pv 5) (pa_cons (pe_k c_law_between  hr (by decide) (by rfl) (pa_cons (pv 2) (pa_cons pe_int pa_nil))) (pa_cons (pe_k c_law_point  hr (by decide) (by rfl) (pa_cons (pv 3) (pa_cons (pv 4) pa_nil))) pa_nil)))) (pa_cons (pv 6) pa_nil)))))
      (pss_cons (ps_set (i := 8) nd rfl (by first | exact Or.inl rfl | exact Or.inr rfl) (pe_k c_law_triple  hr (by decide) (by rfl) (pa_cons (pv 3) (pa_cons (pv 7) pa_nil))))
      (pss_cons (ps_if (pt_cmpR op_ne (pe_callB (call_reprD hgd hr.units) (by rfl) T.repr (by decide +kernel) (pa_cons (pe_k c_triangle_of  hr (by decide) (by rfl) (pa_cons (pv 3) (pa_cons (pv 7) pa_nil))) pa_nil)) (pe_callB (call_reprD hgd hr.units) (by rfl) T.repr (by decide +kernel) (pa_cons (pv 8) pa_nil)) (nomark _)) (pss_one (ps_ret pe_bl)) pss_nil)
      (C8.pss_cut (ps_if (pt_cmpR op_notN (pv 8) pe_non (nomark _)) (pss_cons (ps_if (PW.pt (pw_or (pt_cmpR op_notBl (pe_k c_is_triangle  hr (by decide) (by rfl) (pa_cons (pv 3) (pa_cons (pv 8) pa_nil))) pe_bl (nomark _)) (pw_or1 (pt_cmpR op_notBl (pe_k c_is_triangle  hr (by decide) (by rfl) (pa_cons (pv 3) (pa_cons (pe_tup (pa_cons (pe_ix ix_tup (pv 8) pe_int (fun _ _ => rfl)) (pa_cons (pe_ix ix_tup (pv 8) pe_int (fun _ _ => rfl)) (pa_cons (pe_ix ix_tup (pv 8) pe_int (fun _ _ => rfl)) pa_nil)))) pa_nil))) pe_bl (nomark _))))) (pss_one (ps_ret pe_bl)) pss_nil)
      (pss_cons (ps_set (i := 9) nd rfl (by first | exact Or.inl rfl | exact Or.inr rfl) (pe_lst (pa_cons (pe_k c_law_over  hr (by decide) (by rfl) (pa_cons (pe_k c_law_less  hr (by decide) (by rfl) (pa_cons (pe_ix ix_tup (pv 8) pe_int (fun _ _ => rfl)) (pa_cons (pe_ix ix_tup (pv 8) pe_int (fun _ _ => rfl)) pa_nil))) (pa_cons (pe_tup (pa_cons pe_int (pa_cons pe_int pa_nil))) pa_nil))) (pa_cons (pe_k c_law_over  hr (by decide) (by rfl) (pa_cons (pe_ix ix_tup (pv 8) pe_int (fun _ _ => rfl)) (pa_cons (pe_tup (pa_cons pe_int (pa_cons pe_int pa_nil))) pa_nil))) (pa_cons (pe_k c_law_over  hr (by decide) (by rfl) (pa_cons (pe_k c_law_plus  hr (by decide) (by rfl) (pa_cons (pe_ix ix_tup (pv 8) pe_int (fun _ _ => rfl)) (pa_cons (pe_ix ix_tup (pv 8) pe_int (fun _ _ => rfl)) pa_nil))) (pa_cons (pe_tup (pa_cons pe_int (pa_cons pe_int pa_nil))) pa_nil))) pa_nil)))))
      (pss_cons (ps_set (i := 10) nd rfl (by first | exact Or.inl rfl | exact Or.inr rfl) (pe_callTy call_tuple_of (by rfl) T.tuple (by decide +kernel) (pa_cons (pe_lc (own := [("f", 11)]) (g := gName 11) rfl nd (pi_list (pv 9)) (blkOk_by (N := ["script", "turn", "m", "n", "triangle", "five", "two", "point", "due", "half", "squares", "f", "lap", "bent", "other", "told"]) (sc := defScope s_law) (by decide +kernel)) (fun _ _ _ _ _ => (pg_name (i := 11) nd rfl (by first | exact Or.inl rfl | exact Or.inr rfl))) (fun _ _ _ _ _ => pts_nil) (fun _ _ _ _ _ => (pe_k c_law_by  hr (by decide) (by rfl) (pa_cons (pv 11) (pa_cons (pv 11) pa_nil))))) pa_nil)))
      (pss_one (ps_if (PW.pt (pw_or (pt_cmpR op_ne (pe_callB (call_reprD hgd hr.units) (by rfl) T.repr (by decide +kernel) (pa_cons (pe_k c_squares_in_steps  hr (by decide) (by rfl) (pa_cons (pv 3) (pa_cons (pv 8) pa_nil))) pa_nil)) (pe_callB (call_reprD hgd hr.units) (by rfl) T.repr (by decide +kernel) (pa_cons (pv 10) pa_nil)) (nomark _)) (pw_or1 (pt_cmpR (op_neD hr.units) (pe_k c_law_less  hr (by decide) (by rfl) (pa_cons (pe_ix ix_tup (pv 10) pe_int (fun _ _ => rfl)) (pa_cons (pe_ix ix_tup (pv 10) pe_int (fun _ _ => rfl)) pa_nil))) (pe_tup (pa_cons (pv 3) (pa_cons pe_int pa_nil))) (nomark _))))) (pss_one (ps_ret pe_bl)) pss_nil))))) pss_nil)
      (pss_one (ps_for PassesOwn.never rfl (pi_range1 (by rfl) T.range (pa_cons pe_int pa_nil)) (pg_name (i := 12) nd rfl (by first | exact Or.inl rfl | exact Or.inr rfl)) (pss_cons (ps_par (i := 13) (j := 14) (by rfl) nd rfl rfl (by decide) rfl rfl (pa_cons (pe_k c_law_bent_triple  hr (by decide) (by rfl) (pa_cons (pv 2) (pa_cons (pv 3) (pa_cons (pv 4) pa_nil)))) (pa_cons (pe_k c_law_of  hr (by decide) (by rfl) (pa_cons (pv 2) (pa_cons (pe_lst (pa_cons (pv 3) (pa_cons (pv 3) (pa_cons (pe_ifExp (pt_cmpR op_lt (pv 3) pe_int (nomark _)) (pe_op op_add (pv 3) pe_int) pe_int) pa_nil)))) pa_nil))) pa_nil)) (by rfl))
      (pss_one (ps_if (pt_cmpR op_ne (pe_callB (call_reprD hgd hr.units) (by rfl) T.repr (by decide +kernel) (pa_cons (pe_k c_is_triangle  hr (by decide) (by rfl) (pa_cons (pv 14) (pa_cons (pv 13) pa_nil))) pa_nil)) (pe_callB (call_reprD hgd hr.units) (by rfl) T.repr (by decide +kernel) (pa_cons (pe_k c_law_is_triangle  hr (by decide) (by rfl) (pa_cons (pv 14) (pa_cons (pv 13) pa_nil))) pa_nil)) (nomark _)) (pss_one (ps_ret pe_bl)) pss_nil)))))))))))))))
      (pss_cons (ps_set (i := 15) nd rfl (by first | exact Or.inl rfl | exact Or.inr rfl) (pe_lst (pa_cons (pe_k c_triangle_point  hr (by decide) (by rfl) (pa_cons pe_int (pa_cons (pe_tup (pa_cons (pe_tup (pa_cons pe_int (pa_cons pe_int pa_nil))) (pa_cons (pe_tup (pa_cons pe_int (pa_cons pe_int pa_nil))) (pa_cons (pe_tup (pa_cons pe_int (pa_cons pe_int pa_nil))) pa_nil)))) pa_nil))) (pa_cons (pe_k c_triangle_of  hr (by decide) (by rfl) (pa_cons pe_int (pa_cons (pe_tup (pa_cons (pe_tup (pa_cons pe_int (pa_cons pe_int pa_nil))) (pa_cons (pe_tup (pa_cons pe_int (pa_cons pe_int pa_nil))) pa_nil))) pa_nil))) pa_nil))))
      (pss_one (ps_ret (pe_cmpR (op_eqD hr.units) (pv 15) (pe_lst (pa_cons (pe_tup (pa_cons (pe_tup (pa_cons pe_int (pa_cons pe_int pa_nil))) (pa_cons (pe_tup (pa_cons pe_int (pa_cons pe_int pa_nil))) pa_nil))) (pa_cons (pe_tup (pa_cons (pe_tup (pa_cons pe_int (pa_cons pe_int pa_nil))) (pa_cons (pe_tup (pa_cons pe_int (pa_cons pe_int pa_nil))) (pa_cons (pe_tup (pa_cons pe_int (pa_cons pe_int pa_nil))) pa_nil)))) pa_nil))) (nomark _)))))), ?_⟩
    obtain ⟨j, hj, j0, j1⟩ : ∃ j : Int, (1 : Int) + (if decide ((2 : Int) < ((ns.map V.int).length : Int)) = true then 1 else 0) = j ∧ 0 ≤ j ∧ j ≤ 5 := ⟨_, rfl, by split <;> omega, by split <;> omega⟩
    refine ⟨_, rfl, a, _, rfl, .inl hx, _, _, rfl, rfl, .inr ⟨_, rfl, _, _, rfl, rfl, j, ?_, by omega, by omega, ?_⟩⟩
    · rw [← hj]
    refine for_range (lo := 0) (n := j.toNat) (fun i σ H2 => Same H H2 ∧ ∃ v1 v2 v3 v4 v5 v6 v7 v8 v9 v10 v11 v12 v13 v14 : Option V, σ = [some (.ref a), v1, v2, v3, v4, v5, v6, v7, v8, v9, v10, v11, v12, v13, v14, none]) ⟨Same.refl _, none, none, none, none, none, none, none, none, none, none, none, none, none, none, rfl⟩ ?_ ?_
    · rintro i σ H2 hi ⟨s2, v1, v2, v3, v4, v5, v6, v7, v8, v9, v10, v11, v12, v13, v14, rfl⟩
      refine ⟨_, rfl, _, rfl, a, _, ns, rfl, s2.seq hx, hl, by omega, by omega, fun H3 dr cl s3 nm ncl hM => ?_⟩
      first | refine sigN [some (.ref a), some (.int (0 + (i : Int))), some (.ref dr), v3, v4, v5, v6, v7, v8, v9, v10, v11, v12, v13, v14, none] (by rfl) ?_ | refine sig [some (.ref a), some (.int (0 + (i : Int))), some (.ref dr), v3, v4, v5, v6, v7, v8, v9, v10, v11, v12, v13, v14, none] (by rfl) ?_
      refine ⟨_, rfl, dr, cl, 0, rfl, by decide, hM, fun H4 tt tc N c b4 m4 ht htc hD => ?_⟩
      refine ⟨tt, _, rfl, ht, rfl, _, _, rfl, _, _, rfl, rfl, ?_⟩
      first | refine sigN [some (.ref a), some (.int (0 + (i : Int))), some (.ref dr), some (.int (N)), some (.ref tc), v5, v6, v7, v8, v9, v10, v11, v12, v13, v14, none] (by rfl) ?_ | refine sig [some (.ref a), some (.int (0 + (i : Int))), some (.ref dr), some (.int (N)), some (.ref tc), v5, v6, v7, v8, v9, v10, v11, v12, v13, v14, none] (by rfl) ?_
      have n0 := hD.t.n0
      have n1 := hD.n1
      have hn7 : B 7 N := by
        unfold Gd.B
        omega
      have hn8 : B 8 N := hn7.up (by decide)
      have hC : CB 11 c := ⟨hD.b1, hD.b2, hD.b3⟩
      have hg := en_bd hn7
      refine ⟨_, rfl, _, rfl, _, rfl, _, _, rfl, rfl, hn8.neg.mulW hn8 (by decide), (by show 3 ≤ sizeLine; decide), fun z nz => ?_⟩
      have s5 := Same.new (H := H4) (p := z) (o := .tup [.int 0, .int (-N * N), .int 0]) nz
      have gz : upd H4 z (.tup [.int 0, .int (-N * N), .int 0]) z = some (.tup [.int 0, .int (-N * N), .int 0]) := upd_same
      generalize upd H4 z (.tup [.int 0, .int (-N * N), .int 0]) = H5 at s5 gz ⊢
      refine ⟨z, 0, -N * N, 0, rfl, tup_of gz, fun fv nfv => ?_⟩
      have s6 := Same.new (H := H5) (p := fv) (o := .tup [.int 0, .int 0, .int 0, .int (-N * N), .int 0]) nfv
      have gf : upd H5 fv (.tup [.int 0, .int 0, .int 0, .int (-N * N), .int 0]) fv = some (.tup [.int 0, .int 0, .int 0, .int (-N * N), .int 0]) := upd_same
      generalize upd H5 fv (.tup [.int 0, .int 0, .int 0, .int (-N * N), .int 0]) = H6 at s6 gf ⊢
      first | refine sigN [some (.ref a), some (.int (0 + (i : Int))), some (.ref dr), some (.int (N)), some (.ref tc), some (.ref fv), v6, v7, v8, v9, v10, v11, v12, v13, v14, none] (by rfl) ?_ | refine sig [some (.ref a), some (.int (0 + (i : Int))), some (.ref dr), some (.int (N)), some (.ref tc), some (.ref fv), v6, v7, v8, v9, v10, v11, v12, v13, v14, none] (by rfl) ?_
      obtain ⟨i1, i2, i3⟩ := I_ok (y := -N * N) ((hn8.neg.mul hn8).up (by decide))
      refine ⟨_, rfl, N, rfl, hn8.up (by decide), fun y ny => ?_⟩
      have s7 := Same.new (H := H6) (p := y) (o := .tup [.int 0, .int (-N * N), .int 0]) ny
      have gy : upd H6 y (.tup [.int 0, .int (-N * N), .int 0]) y = some (.tup [.int 0, .int (-N * N), .int 0]) := upd_same
      generalize upd H6 y (.tup [.int 0, .int (-N * N), .int 0]) = H7 at s7 gy ⊢
      refine ⟨.ref y, .tuple [.int 0, .int (-N * N), .int 0], rfl, dpI (tup_of gy), i1, i2, i3, ?_⟩
      refine ⟨_, rfl, _, rfl, _, rfl, _, _, rfl, rfl, hn8.neg.mulW hn8 (by decide), (by show 3 ≤ sizeLine; decide), fun y2 ny2 => ?_⟩
      have s8 := Same.new (H := H7) (p := y2) (o := .tup [.int 0, .int (-N * N), .int 0]) ny2
      have gy2 : upd H7 y2 (.tup [.int 0, .int (-N * N), .int 0]) y2 = some (.tup [.int 0, .int (-N * N), .int 0]) := upd_same
      generalize upd H7 y2 (.tup [.int 0, .int (-N * N), .int 0]) = H8 at s8 gy2 ⊢
      refine ⟨.ref y2, .tuple [.int 0, .int (-N * N), .int 0], rfl, dpI (tup_of gy2), i1, i2, i3, rfl, _, rfl, ?_⟩
      generalize (PyData.tuple [.int 0, .int (-N * N), .int 0]).shown = zz
      refine iteNS rfl ?_
      have s48 := s5.trans (s6.trans (s7.trans s8))
      refine ⟨_, rfl, _, rfl, _, rfl, .ref dr, tc, N, c, rfl, hn7, hD.t, hC, htc.same s48, fun H9 s9 => ?_⟩
      refine ⟨_, rfl, iteF ?_⟩
      have s49 := s48.trans s9
      have hfv9 : FivT K H9 fv (en N) := tup_of ((s7.trans (s8.trans s9)) _ _ gf)
      have htc9 := htc.same s49
      have b9 : But dr H3 H9 := b4.trans (But.of s49)
      have m9 : MAt H9 dr cl 120 := (m4.same s49).up (by omega)
      clear s5 s6 s7 s8 s9 gz gf gy gy2 s48 s49 htc ht b4 m4
      refine ⟨_, rfl, (by show 0 ≤ sizeLine; decide), fun t0 nt0 => ?_⟩
      have ia := Same.new (H := H9) (p := t0) (o := .tup []) nt0
      have e0 : upd H9 t0 (.tup []) t0 = some (.tup []) := upd_same
      generalize upd H9 t0 (.tup []) = Ia at ia e0 ⊢
      refine ⟨(by show 2 ≤ sizeLine; decide), fun a1 na1 => ?_⟩
      have ib := Same.new (H := Ia) (p := a1) (o := .tup [.int 0, .int 1]) na1
      have e1 : upd Ia a1 (.tup [.int 0, .int 1]) a1 = some (.tup [.int 0, .int 1]) := upd_same
      generalize upd Ia a1 (.tup [.int 0, .int 1]) = Ib at ib e1 ⊢
      refine ⟨(by show 2 ≤ sizeLine; decide), fun a2 na2 => ?_⟩
      have ic := Same.new (H := Ib) (p := a2) (o := .tup [.int 0, .int 1]) na2
      have e2 : upd Ib a2 (.tup [.int 0, .int 1]) a2 = some (.tup [.int 0, .int 1]) := upd_same
      generalize upd Ib a2 (.tup [.int 0, .int 1]) = Ic at ic e2 ⊢
      refine ⟨(by show 2 ≤ sizeLine; decide), fun a3 na3 => ?_⟩
      have id := Same.new (H := Ic) (p := a3) (o := .tup [.ref a1, .ref a2]) na3
      have e3 : upd Ic a3 (.tup [.ref a1, .ref a2]) a3 = some (.tup [.ref a1, .ref a2]) := upd_same
      generalize upd Ic a3 (.tup [.ref a1, .ref a2]) = Id at id e3 ⊢
      refine ⟨_, rfl, (by show 2 ≤ sizeLine; decide), fun a4 na4 => ?_⟩
      have ie := Same.new (H := Id) (p := a4) (o := .tup [.int N, .int 1]) na4
      have e4 : upd Id a4 (.tup [.int N, .int 1]) a4 = some (.tup [.int N, .int 1]) := upd_same
      generalize upd Id a4 (.tup [.int N, .int 1]) = Ie at ie e4 ⊢
      refine ⟨(by show 2 ≤ sizeLine; decide), fun a5 na5 => ?_⟩
      have ig := Same.new (H := Ie) (p := a5) (o := .tup [.int 0, .int 1]) na5
      have e5 : upd Ie a5 (.tup [.int 0, .int 1]) a5 = some (.tup [.int 0, .int 1]) := upd_same
      generalize upd Ie a5 (.tup [.int 0, .int 1]) = If at ig e5 ⊢
      refine ⟨(by show 2 ≤ sizeLine; decide), fun a6 na6 => ?_⟩
      have ih := Same.new (H := If) (p := a6) (o := .tup [.ref a4, .ref a5]) na6
      have e6 : upd If a6 (.tup [.ref a4, .ref a5]) a6 = some (.tup [.ref a4, .ref a5]) := upd_same
      generalize upd If a6 (.tup [.ref a4, .ref a5]) = Ig at ih e6 ⊢
      refine ⟨_, rfl, _, rfl, (by show 2 ≤ sizeLine; decide), fun a7 na7 => ?_⟩
      have ii := Same.new (H := Ig) (p := a7) (o := .tup [.int (-N), .int 1]) na7
      have e7 : upd Ig a7 (.tup [.int (-N), .int 1]) a7 = some (.tup [.int (-N), .int 1]) := upd_same
      generalize upd Ig a7 (.tup [.int (-N), .int 1]) = Ih at ii e7 ⊢
      refine ⟨(by show 2 ≤ sizeLine; decide), fun a8 na8 => ?_⟩
      have ij := Same.new (H := Ih) (p := a8) (o := .tup [.int 0, .int 1]) na8
      have e8 : upd Ih a8 (.tup [.int 0, .int 1]) a8 = some (.tup [.int 0, .int 1]) := upd_same
      generalize upd Ih a8 (.tup [.int 0, .int 1]) = Ii at ij e8 ⊢
      refine ⟨(by show 2 ≤ sizeLine; decide), fun a9 na9 => ?_⟩
      have ik := Same.new (H := Ii) (p := a9) (o := .tup [.ref a7, .ref a8]) na9
      have e9 : upd Ii a9 (.tup [.ref a7, .ref a8]) a9 = some (.tup [.ref a7, .ref a8]) := upd_same
      generalize upd Ii a9 (.tup [.ref a7, .ref a8]) = Ij at ik e9 ⊢
      refine ⟨(by show 4 ≤ sizeLine; decide), fun l nl => ?_⟩
      have il := Same.new (H := Ij) (p := l) (o := .lst [.ref t0, .ref a3, .ref a6, .ref a9]) nl
      have gl : upd Ij l (.lst [.ref t0, .ref a3, .ref a6, .ref a9]) l = some (.lst [.ref t0, .ref a3, .ref a6, .ref a9]) := upd_same
      generalize upd Ij l (.lst [.ref t0, .ref a3, .ref a6, .ref a9]) = Ik at il gl ⊢
      rw [← fq_int] at e4 e7
      have q1 := ib.trans (ic.trans (id.trans (ie.trans (ig.trans (ih.trans (ii.trans (ij.trans (ik.trans il))))))))
      have q4 := ie.trans (ig.trans (ih.trans (ii.trans (ij.trans (ik.trans il)))))
      have q7 := ii.trans (ij.trans (ik.trans il))
      have hall : ∀ x ∈ [V.ref t0, .ref a3, .ref a6, .ref a9], ∃ o R, x = .ref o ∧ PtT K Ik o R ∧ On (en N) R ∧ HB 8 R ∧ ∀ T, On (en N) T → HB 372 T → HB 387 (sum (en N) T R) := by
        intro x hx
        simp only [List.mem_cons, List.not_mem_nil, or_false] at hx
        rcases hx with rfl | rfl | rfl | rfl
        · exact ⟨t0, none, rfl, tup_of (q1 _ _ e0), trivial, trivial, fun T _ b => by rw [sum_z]; exact HB.up (h := 372) (k := 387) b (by decide)⟩
        · exact ⟨a3, some (((0 : Int) : Rat), 0), rfl, ⟨a1, a2, tup_of (q4 _ _ e3), tup_of ((ic.trans (id.trans q4)) _ _ e1), tup_of ((id.trans q4) _ _ e2)⟩, on_tor (.inl rfl), RB.zero.up (by decide), fun T o b => tor_HB (h := 372) hn7 (.inl rfl) o b⟩
        · exact ⟨a6, some ((N : Rat), 0), rfl, ⟨a4, a5, tup_of (q7 _ _ e6), tup_of ((ig.trans (ih.trans q7)) _ _ e4), tup_of ((ih.trans q7) _ _ e5)⟩, on_tor (.inr (.inl rfl)), RB.int (m := 8) hn8 (by decide), fun T o b => tor_HB (h := 372) hn7 (.inr (.inl rfl)) o b⟩
        · exact ⟨a9, some (((-N : Int) : Rat), 0), rfl, ⟨a7, a8, tup_of (il _ _ e9), tup_of ((ij.trans (ik.trans il)) _ _ e7), tup_of ((ik.trans il) _ _ e8)⟩, on_tor (.inr (.inr rfl)), RB.int (m := 8) hn8.neg (by decide), fun T o b => tor_HB (h := 372) hn7 (.inr (.inr rfl)) o b⟩
      have sI := ia.trans q1
      refine ⟨dr, cl, l, _, _, rfl, lst_of gl, by show 0 < 4; decide, by show 4 ≤ 1000; decide, by decide, m9.same sI, fun Ja xx bJ mJ hxx => ?_⟩
      obtain ⟨o, R, rfl, hR, oR, hR8, hsumB⟩ := hall xx hxx
      replace hR := pt_but bJ (m9.same sI) hR
      have hfvJ : FivT K Ja fv (en N) := bJ.seqT (m9.same sI) (Same.tup sI hfv9)
      have htcJ := tr_but bJ (m9.same sI) (htc9.same sI)
      have bJ' : But dr H3 Ja := b9.trans ((But.of sI).trans bJ)
      clear ia ib ic id ie ig ih ii ij ik il e0 e1 e2 e3 e4 e5 e6 e7 e8 e9 gl q1 q4 q7 hall sI bJ b9 htc9 hfv9 m9
      first | refine sigN [some (.ref a), some (.int (0 + (i : Int))), some (.ref dr), some (.int (N)), some (.ref tc), some (.ref fv), some (.ref o), v7, v8, v9, v10, v11, v12, v13, v14, none] (by rfl) ?_ | refine sig [some (.ref a), some (.int (0 + (i : Int))), some (.ref dr), some (.int (N)), some (.ref tc), some (.ref fv), some (.ref o), v7, v8, v9, v10, v11, v12, v13, v14, none] (by rfl) ?_
      refine ⟨_, rfl, _, rfl, _, rfl, dr, cl, 4, _, rfl, by decide, by decide, by decide, mJ, fun Jb k bK mK k0 k1 => ?_⟩
      refine ⟨_, rfl, _, rfl, N, tc, c, rfl, hn8, tr_but bK mJ htcJ, hC.b1.up (by decide), hC.b2.up (by decide), hC.b3.up (by decide), hD.t.b0, fun pt Jc sc hpt => ?_⟩
      have hfvK : FivT K Jc fv (en N) := Same.tup sc (bK.seqT mJ hfvJ)
      refine ⟨fv, pt, en N, k, some (tpt N c), rfl, hfvK, hg, hpt, tpt_on hD.t, hD.x, k0, k1, fun tp Jd T sd hTp oT bT => ?_⟩
      have hRd := (pt_but bK mJ hR).same (sc.trans sd)
      refine ⟨_, rfl, fv, tp, o, en N, T, R, 372, 8, rfl, hfvK.same sd, hg, hTp, hRd, oT, oR, bT, hR8, by decide, fun ps Je se hps => ?_⟩
      have oS : On (en N) (sum (en N) T R) := oT.sum oR
      have bS : HB 387 (sum (en N) T R) := hsumB T oT bT
      have sce := sc.trans (sd.trans se)
      have htcE := (tr_but bK mJ htcJ).same sce
      have bE : But dr H3 Je := bJ'.trans (bK.trans (But.of sce))
      have mE : MAt Je dr cl 122 := (mK.same sce).up (by omega)
      clear hsumB hRd hTp hpt hfvK hfvJ htcJ mJ bJ' hR oR hR8 oT bT sc sd se bK mK sce
      generalize sum (en N) T R = S at hps oS bS
      first | refine sigN [some (.ref a), some (.int (0 + (i : Int))), some (.ref dr), some (.int (N)), some (.ref tc), some (.ref fv), some (.ref o), some (.ref ps), v8, v9, v10, v11, v12, v13, v14, none] (by rfl) ?_ | refine sig [some (.ref a), some (.int (0 + (i : Int))), some (.ref dr), some (.int (N)), some (.ref tc), some (.ref fv), some (.ref o), some (.ref ps), v8, v9, v10, v11, v12, v13, v14, none] (by rfl) ?_
      have hTB : TB S := by
        match S, oS, bS with
        | none, _, _ => trivial
        | some (x, y), oS, bS => exact ⟨RB.up (m := 387) bS (by decide), (y_RB (h := 387) (g := 15) oS bS hg).up (by decide)⟩
      have hTri : ∀ d, told N S = some d → Tri N d ∧ Pos d ∧ CB 789 d := by
        intro d hd
        match S, oS, bS, hd with
        | none, _, _, hd => cases hd
        | some (x, y), oS, bS, hd =>
          obtain ⟨t1, t2⟩ := told_ok n0 oS hd
          obtain ⟨r1, r2, r3⟩ := told_CB (h := 387) hn7 oS bS hd
          exact ⟨t1, t2, r1, r2, r3⟩
      obtain ⟨k1', k2', k3'⟩ := O_ok (c := told N S) fun d hd => ⟨(hTri d hd).2.2.b1.up (by decide), (hTri d hd).2.2.b2.up (by decide), (hTri d hd).2.2.b3.up (by decide)⟩
      refine ⟨_, rfl, _, rfl, N, ps, S, rfl, hn8, hps, hTB, fun due Jf sf hdue => ?_⟩
      first | refine sigN [some (.ref a), some (.int (0 + (i : Int))), some (.ref dr), some (.int (N)), some (.ref tc), some (.ref fv), some (.ref o), some (.ref ps), some due, v9, v10, v11, v12, v13, v14, none] (by rfl) ?_ | refine sig [some (.ref a), some (.int (0 + (i : Int))), some (.ref dr), some (.int (N)), some (.ref tc), some (.ref fv), some (.ref o), some (.ref ps), some due, v9, v10, v11, v12, v13, v14, none] (by rfl) ?_
      refine ⟨_, rfl, _, rfl, N, ps, S, rfl, hn8, hps.same sf, hTB, fun du2 Jg sg hdu2 => ?_⟩
      refine ⟨du2, dO (told N S), rfl, dp_O hdu2, k1', k2', k3', ?_⟩
      replace hdue := hdue.same sg
      refine ⟨_, rfl, due, dO (told N S), rfl, dp_O hdue, k1', k2', k3', rfl, _, rfl, ?_⟩
      generalize (dO (told N S)).shown = zz
      refine iteNS rfl ?_
      replace htcE := htcE.same (sf.trans sg)
      replace bE := bE.trans (But.of (sf.trans sg))
      replace mE := mE.same (sf.trans sg)
      clear sf sg hdu2 hps k1' k2' k3' hTB oS bS
      generalize told N S = od at hdue hTri
      refine ⟨fun σ Hx => Same Jg Hx ∧ ∃ v9 v10 v11 : Option V, σ = [some (.ref a), some (.int (0 + (i : Int))), some (.ref dr), some (.int N), some (.ref tc), some (.ref fv), some (.ref o), some (.ref ps), some due, v9, v10, v11, v12, v13, v14, none], ?_, ?_⟩
      · refine ⟨_, rfl, rfl, _, rfl, ?_⟩
        cases od with
        | none =>
          obtain rfl : due = .non := hdue
          refine iteN (by simp) ?_
          exact ⟨Same.refl _, v9, v10, v11, rfl⟩
        | some d =>
          obtain ⟨pd, rfl, hpd⟩ := hdue
          refine iteY (by simp) ?_
          obtain ⟨tD, pD, cD⟩ := hTri d rfl
          have stB := stp_CB hn7 tD cD
          have hpd' := hpd
          obtain ⟨x, y, z⟩ := d
          obtain ⟨qx, qy, qz, g0, g1, g2, g3⟩ := hpd'
          replace g1 : SqT K Jg qx (fq x) := g1
          replace g2 : SqT K Jg qy (fq y) := g2
          replace g3 : SqT K Jg qz (fq z) := g3
          have xB : RB 789 x := cD.b1
          have yB : RB 789 y := cD.b2
          have zB : RB 789 z := cD.b3
          refine ⟨_, rfl, _, rfl, N, .ref pd, _, rfl, hn8, vl3 g0 g1 g2 g3 (xB.up (by decide)) (yB.up (by decide)) (zB.up (by decide)), fun A1 a1 => ?_⟩
          rw [isT_of tD pD]
          refine ⟨true, true, rfl, rfl, _, rfl, iteN (by simp) ?_⟩
          have h0 := Same.tup a1 g0
          refine ⟨_, rfl, _, rfl, pd, _, 1, .ref qy, rfl, rfl, h0, rfl, _, rfl, pd, _, 0, .ref qx, rfl, rfl, h0, rfl, _, rfl, pd, _, 2, .ref qz, rfl, rfl, h0, rfl, (by show 3 ≤ sizeLine; decide), fun tw ntw => ?_⟩
          have a2 := Same.new (H := A1) (p := tw) (o := .tup [.ref qy, .ref qx, .ref qz]) ntw
          have gw : upd A1 tw (.tup [.ref qy, .ref qx, .ref qz]) tw = some (.tup [.ref qy, .ref qx, .ref qz]) := upd_same
          generalize upd A1 tw (.tup [.ref qy, .ref qx, .ref qz]) = A2 at a2 gw ⊢
          have a02 := a1.trans a2
          refine ⟨N, .ref tw, _, rfl, hn8, vl3 (tup_of gw) (Same.tup a02 g2) (Same.tup a02 g1) (Same.tup a02 g3) (yB.up (by decide)) (xB.up (by decide)) (zB.up (by decide)), fun A3 a3 => ?_⟩
          rw [isT_of tD.swap ⟨pD.b, pD.a, pD.c⟩]
          refine ⟨true, true, rfl, rfl, _, rfl, iteN (by simp) ?_⟩
          have a03 := a02.trans a3
          have t2 : (2 : Rat) ≠ 0 := by decide
          have E0 : FrE K A3 [(qx, x, 789), (qy, y, 789), (qz, z, 789)] := FrE.add (FrE.add (FrE.add FrE.nil (Same.tup a03 g3) zB) (Same.tup a03 g2) yB) (Same.tup a03 g1) xB
          have h3 := Same.tup a03 g0
          refine ⟨_, rfl, pd, _, 0, .ref qx, rfl, rfl, h3, rfl, _, rfl, pd, _, 1, .ref qy, rfl, rfl, h3, rfl, ?_⟩
          refine ⟨qx, qy, _, _, _, _, rfl, E0.get (by walk_at "mm"), E0.get (by walk_at "mm"), E0.rb (p := qx) (by walk_at "mm"), E0.rb (p := qy) (by walk_at "mm"), (by first | decide | omega), trivial, fun f1 nf1 => ?_⟩
          obtain ⟨A4, eH_, a4, E1⟩ := stepE E0 nf1 (RB.sub (E0.rb (p := qx) (by walk_at "mm")) (E0.rb (p := qy) (by walk_at "mm")))
          rw [eH_]
          clear eH_
          refine ⟨(by show 2 ≤ sizeLine; decide), fun w1 nw1 => ?_⟩
          obtain ⟨A5, eH_, a5, E2⟩ := litE E1 nw1 fq_2 rb_two
          rw [eH_]
          clear eH_
          refine ⟨f1, w1, _, _, _, _, rfl, E2.get (by walk_at "mm"), E2.get (by walk_at "mm"), E2.rb (p := f1) (by walk_at "mm"), E2.rb (p := w1) (by walk_at "mm"), (by first | decide | omega), t2, fun f2 nf2 => ?_⟩
          obtain ⟨A6, eH_, a6, E3⟩ := stepE E2 nf2 (RB.div t2 (E2.rb (p := f1) (by walk_at "mm")) (E2.rb (p := w1) (by walk_at "mm")))
          rw [eH_]
          clear eH_
          have h6 := Same.tup (a4.trans (a5.trans a6)) h3
          refine ⟨_, rfl, pd, _, 2, .ref qz, rfl, rfl, h6, rfl, ?_⟩
          refine ⟨(by show 2 ≤ sizeLine; decide), fun w2 nw2 => ?_⟩
          obtain ⟨A7, eH_, a7, E4⟩ := litE E3 nw2 fq_2 rb_two
          rw [eH_]
          clear eH_
          refine ⟨qz, w2, _, _, _, _, rfl, E4.get (by walk_at "mm"), E4.get (by walk_at "mm"), E4.rb (p := qz) (by walk_at "mm"), E4.rb (p := w2) (by walk_at "mm"), (by first | decide | omega), t2, fun f3 nf3 => ?_⟩
          obtain ⟨A8, eH_, a8, E5⟩ := stepE E4 nf3 (RB.div t2 (E4.rb (p := qz) (by walk_at "mm")) (E4.rb (p := w2) (by walk_at "mm")))
          rw [eH_]
          clear eH_
          have h8 := Same.tup (a7.trans a8) h6
          refine ⟨_, rfl, pd, _, 0, .ref qx, rfl, rfl, h8, rfl, _, rfl, pd, _, 1, .ref qy, rfl, rfl, h8, rfl, ?_⟩
          refine ⟨qx, qy, _, _, _, _, rfl, E5.get (by walk_at "mm"), E5.get (by walk_at "mm"), E5.rb (p := qx) (by walk_at "mm"), E5.rb (p := qy) (by walk_at "mm"), (by first | decide | omega), trivial, fun f4 nf4 => ?_⟩
          obtain ⟨A9, eH_, a9, E6⟩ := stepE E5 nf4 (RB.add (E5.rb (p := qx) (by walk_at "mm")) (E5.rb (p := qy) (by walk_at "mm")))
          rw [eH_]
          clear eH_
          refine ⟨(by show 2 ≤ sizeLine; decide), fun w3 nw3 => ?_⟩
          obtain ⟨B1, eH_, b1, E7⟩ := litE E6 nw3 fq_2 rb_two
          rw [eH_]
          clear eH_
          refine ⟨f4, w3, _, _, _, _, rfl, E7.get (by walk_at "mm"), E7.get (by walk_at "mm"), E7.rb (p := f4) (by walk_at "mm"), E7.rb (p := w3) (by walk_at "mm"), (by first | decide | omega), t2, fun f5 nf5 => ?_⟩
          obtain ⟨B2, eH_, b2, E8⟩ := stepE E7 nf5 (RB.div t2 (E7.rb (p := f4) (by walk_at "mm")) (E7.rb (p := w3) (by walk_at "mm")))
          rw [eH_]
          clear eH_
          refine ⟨(by show 3 ≤ sizeLine; decide), fun hl nhl => ?_⟩
          have b3 := Same.new (H := B2) (p := hl) (o := .lst [.ref f2, .ref f3, .ref f5]) nhl
          have gh : upd B2 hl (.lst [.ref f2, .ref f3, .ref f5]) hl = some (.lst [.ref f2, .ref f3, .ref f5]) := upd_same
          generalize upd B2 hl (.lst [.ref f2, .ref f3, .ref f5]) = B3 at b3 gh ⊢
          have E9 := E8.same b3
          have k1 := E9.get (p := f2) (by walk_at "mm")
          have k2 := E9.get (p := f3) (by walk_at "mm")
          have k3 := E9.get (p := f5) (by walk_at "mm")
          have r1 := E9.rb (p := f2) (by walk_at "mm")
          have r2 := E9.rb (p := f3) (by walk_at "mm")
          have r3 := E9.rb (p := f5) (by walk_at "mm")
          have a0b := a03.trans (a4.trans (a5.trans (a6.trans (a7.trans (a8.trans (a9.trans (b1.trans (b2.trans b3))))))))
          clear E0 E1 E2 E3 E4 E5 E6 E7 E8 E9 a4 a5 a6 a7 a8 a9 b1 b2 b3 h0 h3 h6 h8 a1 a2 a3 a02 a03 gw
          first | refine sigN [some (.ref a), some (.int (0 + (i : Int))), some (.ref dr), some (.int (N)), some (.ref tc), some (.ref fv), some (.ref o), some (.ref ps), some (.ref pd), some (.ref hl), v10, v11, v12, v13, v14, none] (by rfl) ?_ | refine sig [some (.ref a), some (.int (0 + (i : Int))), some (.ref dr), some (.int (N)), some (.ref tc), some (.ref fv), some (.ref o), some (.ref ps), some (.ref pd), some (.ref hl), v10, v11, v12, v13, v14, none] (by rfl) ?_
          obtain ⟨h1, e1⟩ : ∃ h, (x - y) / 2 = h := ⟨_, rfl⟩
          obtain ⟨h2, e2⟩ : ∃ h, z / 2 = h := ⟨_, rfl⟩
          obtain ⟨h3, e3⟩ : ∃ h, (x + y) / 2 = h := ⟨_, rfl⟩
          rw [e1] at k1 r1
          rw [e2] at k2 r2
          rw [e3] at k3 r3
          have est : stp (x, y, z) = (h1 * h1, h2 * h2, h3 * h3) := by
            show ((x - y) / 2 * ((x - y) / 2), z / 2 * (z / 2), (x + y) / 2 * ((x + y) / 2)) = _
            rw [e1, e2, e3]
          refine ⟨_, rfl, hl, rfl, ⟨_, lst_of gh⟩, fun D hD => ?_⟩
          refine lc_list (K := K) (a := hl) (xs := [.ref f2, .ref f3, .ref f5]) (fun i H4 => Same B3 H4 ∧ FqD H4 D [h1 * h1, h2 * h2, h3 * h3] i) ⟨Same.new hD, FqD.new⟩ (fun i H4 _ z => lst_of (z.1 _ _ gh)) (fun i v H4 hi z => ?_) (fun H4 z => ?_)
          · obtain ⟨s4, hd⟩ := z
            obtain ⟨p', q', rfl, hq, hp', hb, hi3⟩ : ∃ (p : Addr) (q : Rat), v = .ref p ∧ [h1 * h1, h2 * h2, h3 * h3][i]? = some (q * q) ∧ SqT K B3 p (fq q) ∧ RB 1583 q ∧ i < 3 := by
              rcases (show i = 0 ∨ i = 1 ∨ i = 2 ∨ 3 ≤ i by omega) with rfl | rfl | rfl | z
              · exact ⟨f2, h1, (Option.some.inj hi).symm, rfl, k1, r1.up (by decide), by decide⟩
              · exact ⟨f3, h2, (Option.some.inj hi).symm, rfl, k2, r2.up (by decide), by decide⟩
              · exact ⟨f5, h3, (Option.some.inj hi).symm, rfl, k3, r3.up (by decide), by decide⟩
              · rw [List.getElem?_eq_none (by simpa using z)] at hi
                cases hi
            refine ⟨rfl, _, rfl, _, rfl, p', p', q', q', _, _, rfl, Same.tup s4 hp', Same.tup s4 hp', hb, hb, by decide, trivial, fun t nt => ?_⟩
            have s5 := Same.new (H := H4) (p := t) (o := .tup (fq (q' * q'))) nt
            have gt : upd H4 t (.tup (fq (q' * q'))) t = some (.tup (fq (q' * q'))) := upd_same
            generalize upd H4 t (.tup (fq (q' * q'))) = H5 at s5 gt ⊢
            obtain ⟨acc, g1', g2', g3'⟩ := hd.push s5 hq gt (by omega)
            exact ⟨acc, g1', g2', Same.put (s4.trans s5) hD, g3'⟩
          · obtain ⟨s4, hd⟩ := z
            obtain ⟨p1, p2, p3, gD, y1, y2, y3⟩ := hd.three
            refine ⟨D, _, rfl, .inl ⟨lst_of gD, fun sq nsq => ?_⟩⟩
            have s5 := Same.new (H := H4) (p := sq) (o := .tup [.ref p1, .ref p2, .ref p3]) nsq
            have gq : upd H4 sq (.tup [.ref p1, .ref p2, .ref p3]) sq = some (.tup [.ref p1, .ref p2, .ref p3]) := upd_same
            generalize upd H4 sq (.tup [.ref p1, .ref p2, .ref p3]) = H5 at s5 gq ⊢
            first | refine sigN [some (.ref a), some (.int (0 + (i : Int))), some (.ref dr), some (.int (N)), some (.ref tc), some (.ref fv), some (.ref o), some (.ref ps), some (.ref pd), some (.ref hl), some (.ref sq), v11, v12, v13, v14, none] (by rfl) ?_ | refine sig [some (.ref a), some (.int (0 + (i : Int))), some (.ref dr), some (.int (N)), some (.ref tc), some (.ref fv), some (.ref o), some (.ref ps), some (.ref pd), some (.ref hl), some (.ref sq), v11, v12, v13, v14, none] (by rfl) ?_
            have hsq : TrT K H5 sq (stp (x, y, z)) := by
              rw [est]
              exact ⟨p1, p2, p3, tup_of gq, tup_of (s5 _ _ y1), tup_of (s5 _ _ y2), tup_of (s5 _ _ y3)⟩
            have s05 := a0b.trans (s4.trans s5)
            obtain ⟨c1, c2, c3⟩ := C_ok stB
            refine ⟨_, rfl, _, rfl, N, pd, (x, y, z), rfl, hpd.same s05, xB.up (by decide), yB.up (by decide), zB.up (by decide), fun ts H6 s6 hts => ?_⟩
            refine ⟨.ref ts, dC (stp (x, y, z)), rfl, dp_C hts, c1, c2, c3, ?_⟩
            refine ⟨_, rfl, .ref sq, dC (stp (x, y, z)), rfl, dp_C (hsq.same s6), c1, c2, c3, rfl, _, rfl, ?_⟩
            generalize (dC (stp (x, y, z))).shown = zz
            refine iteNS rfl ?_
            have gq6 := tup_of (K := K) (s6 _ _ gq)
            have y26 := tup_of (K := K) ((s5.trans s6) _ _ y2)
            have y36 := tup_of (K := K) ((s5.trans s6) _ _ y3)
            refine ⟨_, rfl, sq, _, 2, .ref p3, rfl, rfl, gq6, rfl, _, rfl, sq, _, 1, .ref p2, rfl, rfl, gq6, rfl, p3, p2, h3 * h3, h2 * h2, _, _, rfl, y36, y26, r3.mul r3, r2.mul r2, by decide, trivial, fun tl ntl => ?_⟩
            have s7 := Same.new (H := H6) (p := tl) (o := .tup (fq (h3 * h3 - h2 * h2))) ntl
            have gtl : upd H6 tl (.tup (fq (h3 * h3 - h2 * h2))) tl = some (.tup (fq (h3 * h3 - h2 * h2))) := upd_same
            generalize upd H6 tl (.tup (fq (h3 * h3 - h2 * h2))) = H7 at s7 gtl ⊢
            refine ⟨_, rfl, (by show 2 ≤ sizeLine; decide), fun tn ntn => ?_⟩
            have s8 := Same.new (H := H7) (p := tn) (o := .tup [.int N, .int 1]) ntn
            have gtn : upd H7 tn (.tup [.int N, .int 1]) tn = some (.tup [.int N, .int 1]) := upd_same
            generalize upd H7 tn (.tup [.int N, .int 1]) = H8 at s8 gtn ⊢
            rw [← fq_int] at gtn
            refine ⟨dq (h3 * h3 - h2 * h2), dq (N : Rat), dp_q (tup_of (s8 _ _ gtl)), dp_q (tup_of gtn), rfl, rfl, _, rfl, ?_⟩
            rw [eqv_q]
            have en2 : h3 * h3 - h2 * h2 = (N : Rat) := by
              have k := stp_is tD
              rw [est, e2] at k
              have k' := (Prod.mk.inj (Prod.mk.inj k).2).2
              rw [k']
              grind
            rw [decide_eq_true en2]
            refine iteF ?_
            exact ⟨s05.trans (s6.trans (s7.trans s8)), _, _, _, rfl⟩
      · rintro σ Hx ⟨sx, w9, w10, w11, rfl⟩
        replace htcE := htcE.same sx
        replace bE := bE.trans (But.of sx)
        replace mE := mE.same sx
        refine ⟨4, rfl, by decide, by decide, for_range (lo := 0) (n := 4) (fun i2 σ H7 => But dr Hx H7 ∧ MAt H7 dr cl (122 + 3 * i2) ∧ ∃ v12 v13 v14 : Option V, σ = [some (.ref a), some (.int (0 + (i : Int))), some (.ref dr), some (.int N), some (.ref tc), some (.ref fv), some (.ref o), some (.ref ps), some due, w9, w10, w11, v12, v13, v14, none]) ⟨But.refl _ _, mE, v12, v13, v14, rfl⟩ ?_ ?_⟩
        · rintro i2 σ H7 hi2 ⟨b7, m7, v12, v13, v14, rfl⟩
          have hi7 : i2 < 4 := hi2
          first | refine sigN [some (.ref a), some (.int (0 + (i : Int))), some (.ref dr), some (.int (N)), some (.ref tc), some (.ref fv), some (.ref o), some (.ref ps), some due, w9, w10, w11, some (.int (0 + (i2 : Int))), v13, v14, none] (by rfl) ?_ | refine sig [some (.ref a), some (.int (0 + (i : Int))), some (.ref dr), some (.int (N)), some (.ref tc), some (.ref fv), some (.ref o), some (.ref ps), some due, w9, w10, w11, some (.int (0 + (i2 : Int))), v13, v14, none] (by rfl) ?_
          refine ⟨_, rfl, _, rfl, _, rfl, dr, cl, tc, N, _, c, rfl, by omega, m7, tr_but b7 mE htcE, hC.b1, hC.b2, hC.b3, fun H8 bt ob b8 m8 hbt => ?_⟩
          refine ⟨_, rfl, _, rfl, _, rfl, _, rfl, _, _, rfl, rfl, _, rfl, ite2 (fun e => ?A) (fun e => ?B)⟩
          case' A =>
            obtain ⟨z, hz, zB⟩ : ∃ z : Int, N + 1 = z ∧ B 8 z := ⟨_, rfl, by unfold Gd.B; omega⟩
            refine ⟨_, rfl, _, _, rfl, rfl, (by show 3 ≤ sizeLine; decide), fun l nl => ?_⟩
            rw [show upd H8 l (.lst [.int N, .int N, .int (N + 1)]) = upd H8 l (.lst [.int N, .int N, .int z]) from by rw [hz]]
          case' B =>
            obtain ⟨z, hz, zB⟩ : ∃ z : Int, 6 = z ∧ B 8 z := ⟨6, rfl, by unfold Gd.B; decide⟩
            refine ⟨(by show 3 ≤ sizeLine; decide), fun l nl => ?_⟩
            rw [show upd H8 l (.lst [.int N, .int N, .int 6]) = upd H8 l (.lst [.int N, .int N, .int z]) from by rw [hz]]
          all_goals
            have s9 := Same.new (H := H8) (p := l) (o := .lst [.int N, .int N, .int z]) nl
            have gl : upd H8 l (.lst [.int N, .int N, .int z]) l = some (.lst [.int N, .int N, .int z]) := upd_same
            generalize upd H8 l (.lst [.int N, .int N, .int z]) = H9 at s9 gl ⊢
            refine ⟨dr, cl, l, _, _, rfl, lst_of gl, by show 0 < 3; decide, by show 3 ≤ 1000; decide, by omega, m8.same s9, fun Ja xx bJ mJ hxx => ?_⟩
            obtain ⟨k, rfl, kB⟩ : ∃ k : Int, xx = .int k ∧ B 8 k := by
              simp only [List.mem_cons, List.not_mem_nil, or_false] at hxx
              rcases hxx with rfl | rfl | rfl
              · exact ⟨_, rfl, hn8⟩
              · exact ⟨_, rfl, hn8⟩
              · exact ⟨_, rfl, zB⟩
            refine ⟨_, _, rfl, ?_⟩
            first | refine sigN [some (.ref a), some (.int (0 + (i : Int))), some (.ref dr), some (.int (N)), some (.ref tc), some (.ref fv), some (.ref o), some (.ref ps), some due, w9, w10, w11, some (.int (0 + (i2 : Int))), some bt, some (.int (k)), none] (by rfl) ?_ | refine sig [some (.ref a), some (.int (0 + (i : Int))), some (.ref dr), some (.int (N)), some (.ref tc), some (.ref fv), some (.ref o), some (.ref ps), some due, w9, w10, w11, some (.int (0 + (i2 : Int))), some bt, some (.int (k)), none] (by rfl) ?_
            have hbJ := (hbt.same s9).but bJ (m8.same s9)
            refine ⟨_, rfl, _, rfl, k, bt, ob, rfl, kB, hbJ, fun Jb sb => ?_⟩
            refine ⟨.bl _, .bool (isT k ob), rfl, .bl _, rfl, (by simp [PyData.depth]), (by simp [wt]), ?_⟩
            refine ⟨_, rfl, _, rfl, k, bt, ob, rfl, kB, hbJ.same sb, fun Jc sc => ?_⟩
            refine ⟨.bl _, .bool (isT k ob), rfl, .bl _, rfl, (by simp [PyData.depth]), (by simp [wt]), rfl, _, rfl, ?_⟩
            generalize (PyData.bool (isT k ob)).shown = zz
            refine iteNS rfl ?_
            exact ⟨b7.trans (b8.trans ((But.of s9).trans (bJ.trans (But.of (sb.trans sc))))), (mJ.same (sb.trans sc)).up (by omega), _, _, _, rfl⟩
        · rintro σ H7 ⟨b7, m7, v12, v13, v14, rfl⟩
          exact ⟨s2.trans (But.same s3 (bE.trans b7) nm), _, _, _, _, _, _, _, _, _, _, _, _, _, _, rfl⟩
    · rintro σ H2 ⟨s2, v1, v2, v3, v4, v5, v6, v7, v8, v9, v10, v11, v12, v13, v14, rfl⟩
      refine ⟨(by show 2 ≤ sizeLine; decide), fun p1 n1 => ?_⟩
      have s3 := Same.new (H := H2) (p := p1) (o := .tup [.int 3, .int 1]) n1
      have g1 : upd H2 p1 (.tup [.int 3, .int 1]) p1 = some (.tup [.int 3, .int 1]) := upd_same
      generalize upd H2 p1 (.tup [.int 3, .int 1]) = H3 at s3 g1 ⊢
      refine ⟨(by show 2 ≤ sizeLine; decide), fun p2 n2 => ?_⟩
      have s4 := Same.new (H := H3) (p := p2) (o := .tup [.int 4, .int 1]) n2
      have g2 : upd H3 p2 (.tup [.int 4, .int 1]) p2 = some (.tup [.int 4, .int 1]) := upd_same
      generalize upd H3 p2 (.tup [.int 4, .int 1]) = H4 at s4 g2 ⊢
      refine ⟨(by show 2 ≤ sizeLine; decide), fun p3 n3 => ?_⟩
      have s5 := Same.new (H := H4) (p := p3) (o := .tup [.int 5, .int 1]) n3
      have g3 : upd H4 p3 (.tup [.int 5, .int 1]) p3 = some (.tup [.int 5, .int 1]) := upd_same
      generalize upd H4 p3 (.tup [.int 5, .int 1]) = H5 at s5 g3 ⊢
      refine ⟨(by show 3 ≤ sizeLine; decide), fun tc ntc => ?_⟩
      have s6 := Same.new (H := H5) (p := tc) (o := .tup [.ref p1, .ref p2, .ref p3]) ntc
      have g4 : upd H5 tc (.tup [.ref p1, .ref p2, .ref p3]) tc = some (.tup [.ref p1, .ref p2, .ref p3]) := upd_same
      generalize upd H5 tc (.tup [.ref p1, .ref p2, .ref p3]) = H6 at s6 g4 ⊢
      have e1 : fq (Rat.divInt 3 1) = [.int 3, .int 1] := by decide +kernel
      have e2 : fq (Rat.divInt 4 1) = [.int 4, .int 1] := by decide +kernel
      have e3 : fq (Rat.divInt 5 1) = [.int 5, .int 1] := by decide +kernel
      rw [← e1] at g1
      rw [← e2] at g2
      rw [← e3] at g3
      have htr : TrT K H6 tc (Rat.divInt 3 1, Rat.divInt 4 1, Rat.divInt 5 1) := ⟨p1, p2, p3, tup_of g4, tup_of ((s4.trans (s5.trans s6)) _ _ g1), tup_of ((s5.trans s6) _ _ g2), tup_of (s6 _ _ g3)⟩
      refine ⟨6, tc, _, rfl, B.lit (by decide), htr, dw_0.b1.up (by decide), dw_0.b2.up (by decide), dw_0.b3.up (by decide), dw_0.t.b0, fun po H7 s7 hpo => ?_⟩
      rw [ends_p] at hpo
      refine ⟨(by show 2 ≤ sizeLine; decide), fun a1 na1 => ?_⟩
      have s8 := Same.new (H := H7) (p := a1) (o := .tup [.int 25, .int 4]) na1
      have k1 : upd H7 a1 (.tup [.int 25, .int 4]) a1 = some (.tup [.int 25, .int 4]) := upd_same
      generalize upd H7 a1 (.tup [.int 25, .int 4]) = H8 at s8 k1 ⊢
      refine ⟨(by show 2 ≤ sizeLine; decide), fun a2 na2 => ?_⟩
      have s9 := Same.new (H := H8) (p := a2) (o := .tup [.int 75, .int 8]) na2
      have k2 : upd H8 a2 (.tup [.int 75, .int 8]) a2 = some (.tup [.int 75, .int 8]) := upd_same
      generalize upd H8 a2 (.tup [.int 75, .int 8]) = H9 at s9 k2 ⊢
      refine ⟨(by show 2 ≤ sizeLine; decide), fun a3 na3 => ?_⟩
      have sa := Same.new (H := H9) (p := a3) (o := .tup [.ref a1, .ref a2]) na3
      have k3 : upd H9 a3 (.tup [.ref a1, .ref a2]) a3 = some (.tup [.ref a1, .ref a2]) := upd_same
      generalize upd H9 a3 (.tup [.ref a1, .ref a2]) = Ha at sa k3 ⊢
      have d1 : fq (Rat.divInt 25 4) = [.int 25, .int 4] := by decide +kernel
      have d2 : fq (Rat.divInt 75 8) = [.int 75, .int 8] := by decide +kernel
      rw [← d1] at k1
      rw [← d2] at k2
      have hpt : PtT K Ha a3 (some (Rat.divInt 25 4, Rat.divInt 75 8)) := ⟨a1, a2, tup_of k3, tup_of ((s9.trans sa) _ _ k1), tup_of (sa _ _ k2)⟩
      have hTB : TB (some (Rat.divInt 25 4, Rat.divInt 75 8)) := ⟨RB.up (m := 8) (⟨by decide +kernel, by decide +kernel⟩ : RB 8 (Rat.divInt 25 4)) (by decide), RB.up (m := 8) (⟨by decide +kernel, by decide +kernel⟩ : RB 8 (Rat.divInt 75 8)) (by decide)⟩
      refine ⟨5, a3, _, rfl, B.lit (by decide), hpt, hTB, fun vv Hb sb hvv => ?_⟩
      rw [ends_t] at hvv
      refine ⟨(by show 2 ≤ sizeLine; decide), fun tl ntl => ?_⟩
      have sc := Same.new (H := Hb) (p := tl) (o := .lst [.ref po, vv]) ntl
      have gl : upd Hb tl (.lst [.ref po, vv]) tl = some (.lst [.ref po, vv]) := upd_same
      generalize upd Hb tl (.lst [.ref po, vv]) = Hc at sc gl ⊢
      have hpo' := hpo.same (s8.trans (s9.trans (sa.trans (sb.trans sc))))
      have hvv' := hvv.same sc
      clear g1 g2 g3 g4 s3 s4 s5 s6 s7 s8 s9 sa sb sc k1 k2 k3 hpt hTB hpo hvv htr e1 e2 e3
      refine ⟨_, rfl, (by show 2 ≤ sizeLine; decide), fun u1 m1 => ?_⟩
      have i1 := Same.new (H := Hc) (p := u1) (o := .tup [.int 12, .int 1]) m1
      have f1 : upd Hc u1 (.tup [.int 12, .int 1]) u1 = some (.tup [.int 12, .int 1]) := upd_same
      generalize upd Hc u1 (.tup [.int 12, .int 1]) = I1 at i1 f1 ⊢
      refine ⟨(by show 2 ≤ sizeLine; decide), fun u2 m2 => ?_⟩
      have i2 := Same.new (H := I1) (p := u2) (o := .tup [.int 36, .int 1]) m2
      have f2 : upd I1 u2 (.tup [.int 36, .int 1]) u2 = some (.tup [.int 36, .int 1]) := upd_same
      generalize upd I1 u2 (.tup [.int 36, .int 1]) = I2 at i2 f2 ⊢
      refine ⟨(by show 2 ≤ sizeLine; decide), fun u3 m3 => ?_⟩
      have i3 := Same.new (H := I2) (p := u3) (o := .tup [.ref u1, .ref u2]) m3
      have f3 : upd I2 u3 (.tup [.ref u1, .ref u2]) u3 = some (.tup [.ref u1, .ref u2]) := upd_same
      generalize upd I2 u3 (.tup [.ref u1, .ref u2]) = I3 at i3 f3 ⊢
      refine ⟨(by show 2 ≤ sizeLine; decide), fun u4 m4 => ?_⟩
      have i4 := Same.new (H := I3) (p := u4) (o := .tup [.int 3, .int 2]) m4
      have f4 : upd I3 u4 (.tup [.int 3, .int 2]) u4 = some (.tup [.int 3, .int 2]) := upd_same
      generalize upd I3 u4 (.tup [.int 3, .int 2]) = I4 at i4 f4 ⊢
      refine ⟨(by show 2 ≤ sizeLine; decide), fun u5 m5 => ?_⟩
      have i5 := Same.new (H := I4) (p := u5) (o := .tup [.int 20, .int 3]) m5
      have f5 : upd I4 u5 (.tup [.int 20, .int 3]) u5 = some (.tup [.int 20, .int 3]) := upd_same
      generalize upd I4 u5 (.tup [.int 20, .int 3]) = I5 at i5 f5 ⊢
      refine ⟨(by show 2 ≤ sizeLine; decide), fun u6 m6 => ?_⟩
      have i6 := Same.new (H := I5) (p := u6) (o := .tup [.int 41, .int 6]) m6
      have f6 : upd I5 u6 (.tup [.int 41, .int 6]) u6 = some (.tup [.int 41, .int 6]) := upd_same
      generalize upd I5 u6 (.tup [.int 41, .int 6]) = I6 at i6 f6 ⊢
      refine ⟨(by show 3 ≤ sizeLine; decide), fun u7 m7 => ?_⟩
      have i7 := Same.new (H := I6) (p := u7) (o := .tup [.ref u4, .ref u5, .ref u6]) m7
      have f7 : upd I6 u7 (.tup [.ref u4, .ref u5, .ref u6]) u7 = some (.tup [.ref u4, .ref u5, .ref u6]) := upd_same
      generalize upd I6 u7 (.tup [.ref u4, .ref u5, .ref u6]) = I7 at i7 f7 ⊢
      refine ⟨(by show 2 ≤ sizeLine; decide), fun u8 m8 => ?_⟩
      have i8 := Same.new (H := I7) (p := u8) (o := .lst [.ref u3, .ref u7]) m8
      have f8 : upd I7 u8 (.lst [.ref u3, .ref u7]) u8 = some (.lst [.ref u3, .ref u7]) := upd_same
      generalize upd I7 u8 (.lst [.ref u3, .ref u7]) = I8 at i8 f8 ⊢
      have d3 : fq 12 = [.int 12, .int 1] := by decide +kernel
      have d4 : fq 36 = [.int 36, .int 1] := by decide +kernel
      have d5 : fq (Rat.divInt 3 2) = [.int 3, .int 2] := by decide +kernel
      have d6 : fq (Rat.divInt 20 3) = [.int 20, .int 3] := by decide +kernel
      have d7 : fq (Rat.divInt 41 6) = [.int 41, .int 6] := by decide +kernel
      rw [← d3] at f1
      rw [← d4] at f2
      rw [← d5] at f4
      rw [← d6] at f5
      rw [← d7] at f6
      have j4 := i4.trans (i5.trans (i6.trans (i7.trans i8)))
      have hp2 : PtT K I8 u3 (some (12, 36)) := ⟨u1, u2, tup_of (j4 _ _ f3), tup_of ((i2.trans (i3.trans j4)) _ _ f1), tup_of ((i3.trans j4) _ _ f2)⟩
      have ht2 : TrT K I8 u7 (Rat.divInt 3 2, Rat.divInt 20 3, Rat.divInt 41 6) := ⟨u4, u5, u6, tup_of (i8 _ _ f7), tup_of ((i5.trans (i6.trans (i7.trans i8))) _ _ f4), tup_of ((i6.trans (i7.trans i8)) _ _ f5), tup_of ((i7.trans i8) _ _ f6)⟩
      have j1 := i1.trans (i2.trans (i3.trans j4))
      refine ⟨dE (some (12, 36)) (Rat.divInt 3 2, Rat.divInt 20 3, Rat.divInt 41 6), dE (some (12, 36)) (Rat.divInt 3 2, Rat.divInt 20 3, Rat.divInt 41 6), .lst (lst_of (j1 _ _ gl)) (.cons (dp_pt (hpo'.same j1)) (.cons (dp_O (c := some _) (hvv'.same j1)) .nil)), .lst (lst_of f8) (.cons (dp_pt hp2) (.cons (dp_C ht2) .nil)), sh_E _ _ _, sh_E _ _ _, ?_⟩
      rw [eqv_E]
      exact q _
end
end K52
set_option Elab.async false
set_option linter.all false
set_option maxRecDepth 100000
set_option maxHeartbeats 4000000
namespace K52
open PySem PySem.Spec PyProof.Rows L2 Gd
theorem all_mk {P : Program} {w : World} {K : PySem.W.Frag} {h : Heap} {mg : Str → Option Value} {fa : Addr} (X : K.In h) (G : h.Ns mainGlobals mg) (hfa : mg "law" = some (.ref fa))
    {f2 : Addr} {od2 an2 : Option Addr} {sl2 : Array (Option Value)} {oc2 kV2 dc2 pm2 cd2 ct2 : Value}
    {f3 : Addr} {od3 an3 : Option Addr} {sl3 : Array (Option Value)} {oc3 kV3 dc3 pm3 cd3 ct3 : Value}
    {f4 : Addr} {od4 an4 : Option Addr} {sl4 : Array (Option Value)} {oc4 kV4 dc4 pm4 cd4 ct4 : Value}
    {f6 : Addr} {od6 an6 : Option Addr} {sl6 : Array (Option Value)} {oc6 kV6 dc6 pm6 cd6 ct6 : Value}
    {f7 : Addr} {od7 an7 : Option Addr} {sl7 : Array (Option Value)} {oc7 kV7 dc7 pm7 cd7 ct7 : Value}
    {f8 : Addr} {od8 an8 : Option Addr} {sl8 : Array (Option Value)} {oc8 kV8 dc8 pm8 cd8 ct8 : Value}
    {f9 : Addr} {od9 an9 : Option Addr} {sl9 : Array (Option Value)} {oc9 kV9 dc9 pm9 cd9 ct9 : Value}
    {f10 : Addr} {od10 an10 : Option Addr} {sl10 : Array (Option Value)} {oc10 kV10 dc10 pm10 cd10 ct10 : Value}
    {f11 : Addr} {od11 an11 : Option Addr} {sl11 : Array (Option Value)} {oc11 kV11 dc11 pm11 cd11 ct11 : Value}
    {f13 : Addr} {od13 an13 : Option Addr} {sl13 : Array (Option Value)} {oc13 kV13 dc13 pm13 cd13 ct13 : Value}
    {f14 : Addr} {od14 an14 : Option Addr} {sl14 : Array (Option Value)} {oc14 kV14 dc14 pm14 cd14 ct14 : Value}
    {f15 : Addr} {od15 an15 : Option Addr} {sl15 : Array (Option Value)} {oc15 kV15 dc15 pm15 cd15 ct15 : Value}
    {f16 : Addr} {od16 an16 : Option Addr} {sl16 : Array (Option Value)} {oc16 kV16 dc16 pm16 cd16 ct16 : Value}
    {f17 : Addr} {od17 an17 : Option Addr} {sl17 : Array (Option Value)} {oc17 kV17 dc17 pm17 cd17 ct17 : Value}
    {f18 : Addr} {od18 an18 : Option Addr} {sl18 : Array (Option Value)} {oc18 kV18 dc18 pm18 cd18 ct18 : Value}
    {f20 : Addr} {od20 an20 : Option Addr} {sl20 : Array (Option Value)} {oc20 kV20 dc20 pm20 cd20 ct20 : Value}
    {f21 : Addr} {od21 an21 : Option Addr} {sl21 : Array (Option Value)} {oc21 kV21 dc21 pm21 cd21 ct21 : Value}
    {f22 : Addr} {od22 an22 : Option Addr} {sl22 : Array (Option Value)} {oc22 kV22 dc22 pm22 cd22 ct22 : Value}
    {f23 : Addr} {od23 an23 : Option Addr} {sl23 : Array (Option Value)} {oc23 kV23 dc23 pm23 cd23 ct23 : Value}
    {f24 : Addr} {od24 an24 : Option Addr} {sl24 : Array (Option Value)} {oc24 kV24 dc24 pm24 cd24 ct24 : Value}
    {f25 : Addr} {od25 an25 : Option Addr} {sl25 : Array (Option Value)} {oc25 kV25 dc25 pm25 cd25 ct25 : Value}
    {f26 : Addr} {od26 an26 : Option Addr} {sl26 : Array (Option Value)} {oc26 kV26 dc26 pm26 cd26 ct26 : Value}
    {f27 : Addr} {od27 an27 : Option Addr} {sl27 : Array (Option Value)} {oc27 kV27 dc27 pm27 cd27 ct27 : Value}
    {f28 : Addr} {od28 an28 : Option Addr} {sl28 : Array (Option Value)} {oc28 kV28 dc28 pm28 cd28 ct28 : Value}
    {f29 : Addr} {od29 an29 : Option Addr} {sl29 : Array (Option Value)} {oc29 kV29 dc29 pm29 cd29 ct29 : Value}
    {f30 : Addr} {od30 an30 : Option Addr} {sl30 : Array (Option Value)} {oc30 kV30 dc30 pm30 cd30 ct30 : Value}
    {f31 : Addr} {od31 an31 : Option Addr} {sl31 : Array (Option Value)} {oc31 kV31 dc31 pm31 cd31 ct31 : Value}
    {f32 : Addr} {od32 an32 : Option Addr} {sl32 : Array (Option Value)} {oc32 kV32 dc32 pm32 cd32 ct32 : Value}
    {f33 : Addr} {od33 an33 : Option Addr} {sl33 : Array (Option Value)} {oc33 kV33 dc33 pm33 cd33 ct33 : Value}
    {f34 : Addr} {od34 an34 : Option Addr} {sl34 : Array (Option Value)} {oc34 kV34 dc34 pm34 cd34 ct34 : Value}
    {f35 : Addr} {od35 an35 : Option Addr} {sl35 : Array (Option Value)} {oc35 kV35 dc35 pm35 cd35 ct35 : Value}
    {f36 : Addr} {od36 an36 : Option Addr} {sl36 : Array (Option Value)} {oc36 kV36 dc36 pm36 cd36 ct36 : Value}
    {f37 : Addr} {od37 an37 : Option Addr} {sl37 : Array (Option Value)} {oc37 kV37 dc37 pm37 cd37 ct37 : Value}
    {f38 : Addr} {od38 an38 : Option Addr} {sl38 : Array (Option Value)} {oc38 kV38 dc38 pm38 cd38 ct38 : Value}
    {f39 : Addr} {od39 an39 : Option Addr} {sl39 : Array (Option Value)} {oc39 kV39 dc39 pm39 cd39 ct39 : Value}
    {f40 : Addr} {od40 an40 : Option Addr} {sl40 : Array (Option Value)} {oc40 kV40 dc40 pm40 cd40 ct40 : Value}
    {f41 : Addr} {od41 an41 : Option Addr} {sl41 : Array (Option Value)} {oc41 kV41 dc41 pm41 cd41 ct41 : Value}
    {f42 : Addr} {od42 an42 : Option Addr} {sl42 : Array (Option Value)} {oc42 kV42 dc42 pm42 cd42 ct42 : Value}
    {f43 : Addr} {od43 an43 : Option Addr} {sl43 : Array (Option Value)} {oc43 kV43 dc43 pm43 cd43 ct43 : Value}
    {f44 : Addr} {od44 an44 : Option Addr} {sl44 : Array (Option Value)} {oc44 kV44 dc44 pm44 cd44 ct44 : Value}
    {f45 : Addr} {od45 an45 : Option Addr} {sl45 : Array (Option Value)} {oc45 kV45 dc45 pm45 cd45 ct45 : Value}
    {f46 : Addr} {od46 an46 : Option Addr} {sl46 : Array (Option Value)} {oc46 kV46 dc46 pm46 cd46 ct46 : Value}
    {f47 : Addr} {od47 an47 : Option Addr} {sl47 : Array (Option Value)} {oc47 kV47 dc47 pm47 cd47 ct47 : Value}
    {f48 : Addr} {od48 an48 : Option Addr} {sl48 : Array (Option Value)} {oc48 kV48 dc48 pm48 cd48 ct48 : Value}
    (a2 : PySem.W.nsIn K mainGlobals "is_whole" = some (some (.ref f2))) (l2 : K.lookup f2 = some ⟨oc2, od2, .func (PySem.W.fnOf "is_whole" "is_whole" (defArgs s_is_whole) (defBody s_is_whole) (defScope s_is_whole) .none kV2 dc2 pm2 an2 cd2 ct2), sl2⟩) (c2 : PySem.W.codeIn K cd2 "is_whole" = true) (k2 : PySem.W.keepIn K (.ref f2) = true)
    (a3 : PySem.W.nsIn K mainGlobals "is_tuple" = some (some (.ref f3))) (l3 : K.lookup f3 = some ⟨oc3, od3, .func (PySem.W.fnOf "is_tuple" "is_tuple" (defArgs s_is_tuple) (defBody s_is_tuple) (defScope s_is_tuple) .none kV3 dc3 pm3 an3 cd3 ct3), sl3⟩) (c3 : PySem.W.codeIn K cd3 "is_tuple" = true) (k3 : PySem.W.keepIn K (.ref f3) = true)
    (a4 : PySem.W.nsIn K mainGlobals "lowest" = some (some (.ref f4))) (l4 : K.lookup f4 = some ⟨oc4, od4, .func (PySem.W.fnOf "lowest" "lowest" (defArgs s_lowest) (defBody s_lowest) (defScope s_lowest) .none kV4 dc4 pm4 an4 cd4 ct4), sl4⟩) (c4 : PySem.W.codeIn K cd4 "lowest" = true) (k4 : PySem.W.keepIn K (.ref f4) = true)
    (a6 : PySem.W.nsIn K mainGlobals "plus" = some (some (.ref f6))) (l6 : K.lookup f6 = some ⟨oc6, od6, .func (PySem.W.fnOf "plus" "plus" (defArgs s_plus) (defBody s_plus) (defScope s_plus) .none kV6 dc6 pm6 an6 cd6 ct6), sl6⟩) (c6 : PySem.W.codeIn K cd6 "plus" = true) (k6 : PySem.W.keepIn K (.ref f6) = true)
    (a7 : PySem.W.nsIn K mainGlobals "less" = some (some (.ref f7))) (l7 : K.lookup f7 = some ⟨oc7, od7, .func (PySem.W.fnOf "less" "less" (defArgs s_less) (defBody s_less) (defScope s_less) .none kV7 dc7 pm7 an7 cd7 ct7), sl7⟩) (c7 : PySem.W.codeIn K cd7 "less" = true) (k7 : PySem.W.keepIn K (.ref f7) = true)
    (a8 : PySem.W.nsIn K mainGlobals "times" = some (some (.ref f8))) (l8 : K.lookup f8 = some ⟨oc8, od8, .func (PySem.W.fnOf "times" "times" (defArgs s_times) (defBody s_times) (defScope s_times) .none kV8 dc8 pm8 an8 cd8 ct8), sl8⟩) (c8 : PySem.W.codeIn K cd8 "times" = true) (k8 : PySem.W.keepIn K (.ref f8) = true)
    (a9 : PySem.W.nsIn K mainGlobals "over" = some (some (.ref f9))) (l9 : K.lookup f9 = some ⟨oc9, od9, .func (PySem.W.fnOf "over" "over" (defArgs s_over) (defBody s_over) (defScope s_over) .none kV9 dc9 pm9 an9 cd9 ct9), sl9⟩) (c9 : PySem.W.codeIn K cd9 "over" = true) (k9 : PySem.W.keepIn K (.ref f9) = true)
    (a10 : PySem.W.nsIn K mainGlobals "is_fraction" = some (some (.ref f10))) (l10 : K.lookup f10 = some ⟨oc10, od10, .func (PySem.W.fnOf "is_fraction" "is_fraction" (defArgs s_is_fraction) (defBody s_is_fraction) (defScope s_is_fraction) .none kV10 dc10 pm10 an10 cd10 ct10), sl10⟩) (c10 : PySem.W.codeIn K cd10 "is_fraction" = true) (k10 : PySem.W.keepIn K (.ref f10) = true)
    (a11 : PySem.W.nsIn K mainGlobals "is_below" = some (some (.ref f11))) (l11 : K.lookup f11 = some ⟨oc11, od11, .func (PySem.W.fnOf "is_below" "is_below" (defArgs s_is_below) (defBody s_is_below) (defScope s_is_below) .none kV11 dc11 pm11 an11 cd11 ct11), sl11⟩) (c11 : PySem.W.codeIn K cd11 "is_below" = true) (k11 : PySem.W.keepIn K (.ref f11) = true)
    (a13 : PySem.W.nsIn K mainGlobals "amount" = some (some (.ref f13))) (l13 : K.lookup f13 = some ⟨oc13, od13, .func (PySem.W.fnOf "amount" "amount" (defArgs s_amount) (defBody s_amount) (defScope s_amount) .none kV13 dc13 pm13 an13 cd13 ct13), sl13⟩) (c13 : PySem.W.codeIn K cd13 "amount" = true) (k13 : PySem.W.keepIn K (.ref f13) = true)
    (a14 : PySem.W.nsIn K mainGlobals "triangle_curve" = some (some (.ref f14))) (l14 : K.lookup f14 = some ⟨oc14, od14, .func (PySem.W.fnOf "triangle_curve" "triangle_curve" (defArgs s_triangle_curve) (defBody s_triangle_curve) (defScope s_triangle_curve) .none kV14 dc14 pm14 an14 cd14 ct14), sl14⟩) (c14 : PySem.W.codeIn K cd14 "triangle_curve" = true) (k14 : PySem.W.keepIn K (.ref f14) = true)
    (a15 : PySem.W.nsIn K mainGlobals "triangle_of" = some (some (.ref f15))) (l15 : K.lookup f15 = some ⟨oc15, od15, .func (PySem.W.fnOf "triangle_of" "triangle_of" (defArgs s_triangle_of) (defBody s_triangle_of) (defScope s_triangle_of) .none kV15 dc15 pm15 an15 cd15 ct15), sl15⟩) (c15 : PySem.W.codeIn K cd15 "triangle_of" = true) (k15 : PySem.W.keepIn K (.ref f15) = true)
    (a16 : PySem.W.nsIn K mainGlobals "triangle_point" = some (some (.ref f16))) (l16 : K.lookup f16 = some ⟨oc16, od16, .func (PySem.W.fnOf "triangle_point" "triangle_point" (defArgs s_triangle_point) (defBody s_triangle_point) (defScope s_triangle_point) .none kV16 dc16 pm16 an16 cd16 ct16), sl16⟩) (c16 : PySem.W.codeIn K cd16 "triangle_point" = true) (k16 : PySem.W.keepIn K (.ref f16) = true)
    (a17 : PySem.W.nsIn K mainGlobals "is_triangle" = some (some (.ref f17))) (l17 : K.lookup f17 = some ⟨oc17, od17, .func (PySem.W.fnOf "is_triangle" "is_triangle" (defArgs s_is_triangle) (defBody s_is_triangle) (defScope s_is_triangle) .none kV17 dc17 pm17 an17 cd17 ct17), sl17⟩) (c17 : PySem.W.codeIn K cd17 "is_triangle" = true) (k17 : PySem.W.keepIn K (.ref f17) = true)
    (a18 : PySem.W.nsIn K mainGlobals "squares_in_steps" = some (some (.ref f18))) (l18 : K.lookup f18 = some ⟨oc18, od18, .func (PySem.W.fnOf "squares_in_steps" "squares_in_steps" (defArgs s_squares_in_steps) (defBody s_squares_in_steps) (defScope s_squares_in_steps) .none kV18 dc18 pm18 an18 cd18 ct18), sl18⟩) (c18 : PySem.W.codeIn K cd18 "squares_in_steps" = true) (k18 : PySem.W.keepIn K (.ref f18) = true)
    (a20 : PySem.W.nsIn K mainGlobals "_law_begun" = some (some (.ref f20))) (l20 : K.lookup f20 = some ⟨oc20, od20, .func (PySem.W.fnOf "_law_begun" "_law_begun" (defArgs s__law_begun) (defBody s__law_begun) (defScope s__law_begun) .none kV20 dc20 pm20 an20 cd20 ct20), sl20⟩) (c20 : PySem.W.codeIn K cd20 "_law_begun" = true) (k20 : PySem.W.keepIn K (.ref f20) = true)
    (a21 : PySem.W.nsIn K mainGlobals "_law_draw" = some (some (.ref f21))) (l21 : K.lookup f21 = some ⟨oc21, od21, .func (PySem.W.fnOf "_law_draw" "_law_draw" (defArgs s__law_draw) (defBody s__law_draw) (defScope s__law_draw) .none kV21 dc21 pm21 an21 cd21 ct21), sl21⟩) (c21 : PySem.W.codeIn K cd21 "_law_draw" = true) (k21 : PySem.W.keepIn K (.ref f21) = true)
    (a22 : PySem.W.nsIn K mainGlobals "_law_of" = some (some (.ref f22))) (l22 : K.lookup f22 = some ⟨oc22, od22, .func (PySem.W.fnOf "_law_of" "_law_of" (defArgs s__law_of) (defBody s__law_of) (defScope s__law_of) .none kV22 dc22 pm22 an22 cd22 ct22), sl22⟩) (c22 : PySem.W.codeIn K cd22 "_law_of" = true) (k22 : PySem.W.keepIn K (.ref f22) = true)
    (a23 : PySem.W.nsIn K mainGlobals "_law_between" = some (some (.ref f23))) (l23 : K.lookup f23 = some ⟨oc23, od23, .func (PySem.W.fnOf "_law_between" "_law_between" (defArgs s__law_between) (defBody s__law_between) (defScope s__law_between) .none kV23 dc23 pm23 an23 cd23 ct23), sl23⟩) (c23 : PySem.W.codeIn K cd23 "_law_between" = true) (k23 : PySem.W.keepIn K (.ref f23) = true)
    (a24 : PySem.W.nsIn K mainGlobals "_law_common" = some (some (.ref f24))) (l24 : K.lookup f24 = some ⟨oc24, od24, .func (PySem.W.fnOf "_law_common" "_law_common" (defArgs s__law_common) (defBody s__law_common) (defScope s__law_common) .none kV24 dc24 pm24 an24 cd24 ct24), sl24⟩) (c24 : PySem.W.codeIn K cd24 "_law_common" = true) (k24 : PySem.W.keepIn K (.ref f24) = true)
    (a25 : PySem.W.nsIn K mainGlobals "_law_class" = some (some (.ref f25))) (l25 : K.lookup f25 = some ⟨oc25, od25, .func (PySem.W.fnOf "_law_class" "_law_class" (defArgs s__law_class) (defBody s__law_class) (defScope s__law_class) .none kV25 dc25 pm25 an25 cd25 ct25), sl25⟩) (c25 : PySem.W.codeIn K cd25 "_law_class" = true) (k25 : PySem.W.keepIn K (.ref f25) = true)
    (a26 : PySem.W.nsIn K mainGlobals "_law_root" = some (some (.ref f26))) (l26 : K.lookup f26 = some ⟨oc26, od26, .func (PySem.W.fnOf "_law_root" "_law_root" (defArgs s__law_root) (defBody s__law_root) (defScope s__law_root) .none kV26 dc26 pm26 an26 cd26 ct26), sl26⟩) (c26 : PySem.W.codeIn K cd26 "_law_root" = true) (k26 : PySem.W.keepIn K (.ref f26) = true)
    (a27 : PySem.W.nsIn K mainGlobals "_law_cut" = some (some (.ref f27))) (l27 : K.lookup f27 = some ⟨oc27, od27, .func (PySem.W.fnOf "_law_cut" "_law_cut" (defArgs s__law_cut) (defBody s__law_cut) (defScope s__law_cut) .none kV27 dc27 pm27 an27 cd27 ct27), sl27⟩) (c27 : PySem.W.codeIn K cd27 "_law_cut" = true) (k27 : PySem.W.keepIn K (.ref f27) = true)
    (a28 : PySem.W.nsIn K mainGlobals "_law_plus" = some (some (.ref f28))) (l28 : K.lookup f28 = some ⟨oc28, od28, .func (PySem.W.fnOf "_law_plus" "_law_plus" (defArgs s__law_plus) (defBody s__law_plus) (defScope s__law_plus) .none kV28 dc28 pm28 an28 cd28 ct28), sl28⟩) (c28 : PySem.W.codeIn K cd28 "_law_plus" = true) (k28 : PySem.W.keepIn K (.ref f28) = true)
    (a29 : PySem.W.nsIn K mainGlobals "_law_less" = some (some (.ref f29))) (l29 : K.lookup f29 = some ⟨oc29, od29, .func (PySem.W.fnOf "_law_less" "_law_less" (defArgs s__law_less) (defBody s__law_less) (defScope s__law_less) .none kV29 dc29 pm29 an29 cd29 ct29), sl29⟩) (c29 : PySem.W.codeIn K cd29 "_law_less" = true) (k29 : PySem.W.keepIn K (.ref f29) = true)
    (a30 : PySem.W.nsIn K mainGlobals "_law_by" = some (some (.ref f30))) (l30 : K.lookup f30 = some ⟨oc30, od30, .func (PySem.W.fnOf "_law_by" "_law_by" (defArgs s__law_by) (defBody s__law_by) (defScope s__law_by) .none kV30 dc30 pm30 an30 cd30 ct30), sl30⟩) (c30 : PySem.W.codeIn K cd30 "_law_by" = true) (k30 : PySem.W.keepIn K (.ref f30) = true)
    (a31 : PySem.W.nsIn K mainGlobals "_law_over" = some (some (.ref f31))) (l31 : K.lookup f31 = some ⟨oc31, od31, .func (PySem.W.fnOf "_law_over" "_law_over" (defArgs s__law_over) (defBody s__law_over) (defScope s__law_over) .none kV31 dc31 pm31 an31 cd31 ct31), sl31⟩) (c31 : PySem.W.codeIn K cd31 "_law_over" = true) (k31 : PySem.W.keepIn K (.ref f31) = true)
    (a32 : PySem.W.nsIn K mainGlobals "_law_five" = some (some (.ref f32))) (l32 : K.lookup f32 = some ⟨oc32, od32, .func (PySem.W.fnOf "_law_five" "_law_five" (defArgs s__law_five) (defBody s__law_five) (defScope s__law_five) .none kV32 dc32 pm32 an32 cd32 ct32), sl32⟩) (c32 : PySem.W.codeIn K cd32 "_law_five" = true) (k32 : PySem.W.keepIn K (.ref f32) = true)
    (a33 : PySem.W.nsIn K mainGlobals "_law_cubic" = some (some (.ref f33))) (l33 : K.lookup f33 = some ⟨oc33, od33, .func (PySem.W.fnOf "_law_cubic" "_law_cubic" (defArgs s__law_cubic) (defBody s__law_cubic) (defScope s__law_cubic) .none kV33 dc33 pm33 an33 cd33 ct33), sl33⟩) (c33 : PySem.W.codeIn K cd33 "_law_cubic" = true) (k33 : PySem.W.keepIn K (.ref f33) = true)
    (a34 : PySem.W.nsIn K mainGlobals "_law_bent" = some (some (.ref f34))) (l34 : K.lookup f34 = some ⟨oc34, od34, .func (PySem.W.fnOf "_law_bent" "_law_bent" (defArgs s__law_bent) (defBody s__law_bent) (defScope s__law_bent) .none kV34 dc34 pm34 an34 cd34 ct34), sl34⟩) (c34 : PySem.W.codeIn K cd34 "_law_bent" = true) (k34 : PySem.W.keepIn K (.ref f34) = true)
    (a35 : PySem.W.nsIn K mainGlobals "_law_on" = some (some (.ref f35))) (l35 : K.lookup f35 = some ⟨oc35, od35, .func (PySem.W.fnOf "_law_on" "_law_on" (defArgs s__law_on) (defBody s__law_on) (defScope s__law_on) .none kV35 dc35 pm35 an35 cd35 ct35), sl35⟩) (c35 : PySem.W.codeIn K cd35 "_law_on" = true) (k35 : PySem.W.keepIn K (.ref f35) = true)
    (a36 : PySem.W.nsIn K mainGlobals "_law_turned" = some (some (.ref f36))) (l36 : K.lookup f36 = some ⟨oc36, od36, .func (PySem.W.fnOf "_law_turned" "_law_turned" (defArgs s__law_turned) (defBody s__law_turned) (defScope s__law_turned) .none kV36 dc36 pm36 an36 cd36 ct36), sl36⟩) (c36 : PySem.W.codeIn K cd36 "_law_turned" = true) (k36 : PySem.W.keepIn K (.ref f36) = true)
    (a37 : PySem.W.nsIn K mainGlobals "_law_sum" = some (some (.ref f37))) (l37 : K.lookup f37 = some ⟨oc37, od37, .func (PySem.W.fnOf "_law_sum" "_law_sum" (defArgs s__law_sum) (defBody s__law_sum) (defScope s__law_sum) .none kV37 dc37 pm37 an37 cd37 ct37), sl37⟩) (c37 : PySem.W.codeIn K cd37 "_law_sum" = true) (k37 : PySem.W.keepIn K (.ref f37) = true)
    (a38 : PySem.W.nsIn K mainGlobals "_law_times_of" = some (some (.ref f38))) (l38 : K.lookup f38 = some ⟨oc38, od38, .func (PySem.W.fnOf "_law_times_of" "_law_times_of" (defArgs s__law_times_of) (defBody s__law_times_of) (defScope s__law_times_of) .none kV38 dc38 pm38 an38 cd38 ct38), sl38⟩) (c38 : PySem.W.codeIn K cd38 "_law_times_of" = true) (k38 : PySem.W.keepIn K (.ref f38) = true)
    (a39 : PySem.W.nsIn K mainGlobals "_law_amount" = some (some (.ref f39))) (l39 : K.lookup f39 = some ⟨oc39, od39, .func (PySem.W.fnOf "_law_amount" "_law_amount" (defArgs s__law_amount) (defBody s__law_amount) (defScope s__law_amount) .none kV39 dc39 pm39 an39 cd39 ct39), sl39⟩) (c39 : PySem.W.codeIn K cd39 "_law_amount" = true) (k39 : PySem.W.keepIn K (.ref f39) = true)
    (a40 : PySem.W.nsIn K mainGlobals "_law_is_below" = some (some (.ref f40))) (l40 : K.lookup f40 = some ⟨oc40, od40, .func (PySem.W.fnOf "_law_is_below" "_law_is_below" (defArgs s__law_is_below) (defBody s__law_is_below) (defScope s__law_is_below) .none kV40 dc40 pm40 an40 cd40 ct40), sl40⟩) (c40 : PySem.W.codeIn K cd40 "_law_is_below" = true) (k40 : PySem.W.keepIn K (.ref f40) = true)
    (a41 : PySem.W.nsIn K mainGlobals "_law_drawn" = some (some (.ref f41))) (l41 : K.lookup f41 = some ⟨oc41, od41, .func (PySem.W.fnOf "_law_drawn" "_law_drawn" (defArgs s__law_drawn) (defBody s__law_drawn) (defScope s__law_drawn) .none kV41 dc41 pm41 an41 cd41 ct41), sl41⟩) (c41 : PySem.W.codeIn K cd41 "_law_drawn" = true) (k41 : PySem.W.keepIn K (.ref f41) = true)
    (a42 : PySem.W.nsIn K mainGlobals "_law_point" = some (some (.ref f42))) (l42 : K.lookup f42 = some ⟨oc42, od42, .func (PySem.W.fnOf "_law_point" "_law_point" (defArgs s__law_point) (defBody s__law_point) (defScope s__law_point) .none kV42 dc42 pm42 an42 cd42 ct42), sl42⟩) (c42 : PySem.W.codeIn K cd42 "_law_point" = true) (k42 : PySem.W.keepIn K (.ref f42) = true)
    (a43 : PySem.W.nsIn K mainGlobals "_law_triple" = some (some (.ref f43))) (l43 : K.lookup f43 = some ⟨oc43, od43, .func (PySem.W.fnOf "_law_triple" "_law_triple" (defArgs s__law_triple) (defBody s__law_triple) (defScope s__law_triple) .none kV43 dc43 pm43 an43 cd43 ct43), sl43⟩) (c43 : PySem.W.codeIn K cd43 "_law_triple" = true) (k43 : PySem.W.keepIn K (.ref f43) = true)
    (a44 : PySem.W.nsIn K mainGlobals "_law_is_fraction" = some (some (.ref f44))) (l44 : K.lookup f44 = some ⟨oc44, od44, .func (PySem.W.fnOf "_law_is_fraction" "_law_is_fraction" (defArgs s__law_is_fraction) (defBody s__law_is_fraction) (defScope s__law_is_fraction) .none kV44 dc44 pm44 an44 cd44 ct44), sl44⟩) (c44 : PySem.W.codeIn K cd44 "_law_is_fraction" = true) (k44 : PySem.W.keepIn K (.ref f44) = true)
    (a45 : PySem.W.nsIn K mainGlobals "_law_is_triangle" = some (some (.ref f45))) (l45 : K.lookup f45 = some ⟨oc45, od45, .func (PySem.W.fnOf "_law_is_triangle" "_law_is_triangle" (defArgs s__law_is_triangle) (defBody s__law_is_triangle) (defScope s__law_is_triangle) .none kV45 dc45 pm45 an45 cd45 ct45), sl45⟩) (c45 : PySem.W.codeIn K cd45 "_law_is_triangle" = true) (k45 : PySem.W.keepIn K (.ref f45) = true)
    (a46 : PySem.W.nsIn K mainGlobals "_law_bent_triple" = some (some (.ref f46))) (l46 : K.lookup f46 = some ⟨oc46, od46, .func (PySem.W.fnOf "_law_bent_triple" "_law_bent_triple" (defArgs s__law_bent_triple) (defBody s__law_bent_triple) (defScope s__law_bent_triple) .none kV46 dc46 pm46 an46 cd46 ct46), sl46⟩) (c46 : PySem.W.codeIn K cd46 "_law_bent_triple" = true) (k46 : PySem.W.keepIn K (.ref f46) = true)
    (a47 : PySem.W.nsIn K mainGlobals "_law_signs_right" = some (some (.ref f47))) (l47 : K.lookup f47 = some ⟨oc47, od47, .func (PySem.W.fnOf "_law_signs_right" "_law_signs_right" (defArgs s__law_signs_right) (defBody s__law_signs_right) (defScope s__law_signs_right) .none kV47 dc47 pm47 an47 cd47 ct47), sl47⟩) (c47 : PySem.W.codeIn K cd47 "_law_signs_right" = true) (k47 : PySem.W.keepIn K (.ref f47) = true)
    (a48 : PySem.W.nsIn K mainGlobals "law" = some (some (.ref f48))) (l48 : K.lookup f48 = some ⟨oc48, od48, .func (PySem.W.fnOf "law" "law" (defArgs s_law) (defBody s_law) (defScope s_law) .none kV48 dc48 pm48 an48 cd48 ct48), sl48⟩) (c48 : PySem.W.codeIn K cd48 "law" = true) (k48 : PySem.W.keepIn K (.ref f48) = true)
    (z_gcd : PySem.W.nsIn K mainGlobals "gcd" = some (some (.builtin "math.gcd")))
    (z_type : PySem.W.nsIn K mainGlobals "type" = some none)
    (z_int : PySem.W.nsIn K mainGlobals "int" = some none)
    (z_isinstance : PySem.W.nsIn K mainGlobals "isinstance" = some none)
    (z_tuple : PySem.W.nsIn K mainGlobals "tuple" = some none)
    (z_bool : PySem.W.nsIn K mainGlobals "bool" = some none)
    (z_len : PySem.W.nsIn K mainGlobals "len" = some none)
    (z_all : PySem.W.nsIn K mainGlobals "all" = some none)
    (z_abs : PySem.W.nsIn K mainGlobals "abs" = some none)
    (z_min : PySem.W.nsIn K mainGlobals "min" = some none)
    (z_range : PySem.W.nsIn K mainGlobals "range" = some none)
    (z_repr : PySem.W.nsIn K mainGlobals "repr" = some none)
    : ∃ fd : FuncData, (∀ (s : Shared) (v : Value), BindsTo s fd ⟨[v], []⟩ [("script", v)]) ∧ ∀ base : Heap, K.In base → base.Ns mainGlobals mg → FnG P w K mg base 8 fa fd ["script"] (sp_law K) := by
  have T : Tx K mg := ⟨PySem.W.mg_of X G z_gcd, PySem.W.mg_none_of X G z_type, PySem.W.mg_none_of X G z_int, PySem.W.mg_none_of X G z_isinstance, PySem.W.mg_none_of X G z_tuple, PySem.W.mg_none_of X G z_bool, PySem.W.mg_none_of X G z_len, PySem.W.mg_none_of X G z_all, PySem.W.mg_none_of X G z_abs, PySem.W.mg_none_of X G z_min, PySem.W.mg_none_of X G z_range, PySem.W.mg_none_of X G z_repr⟩
  have d2 : Df K mg "is_whole" s_is_whole ["value"] := df_mk X G a2 l2 c2 k2 (fun _ _ _ _ _ _ us hl => match us, hl with | [_], _ => rfl)
  have d3 : Df K mg "is_tuple" s_is_tuple ["value", "many"] := df_mk X G a3 l3 c3 k3 (fun _ _ _ _ _ _ us hl => match us, hl with | [_, _], _ => rfl)
  have d4 : Df K mg "lowest" s_lowest ["n", "d"] := df_mk X G a4 l4 c4 k4 (fun _ _ _ _ _ _ us hl => match us, hl with | [_, _], _ => rfl)
  have d6 : Df K mg "plus" s_plus ["f", "g"] := df_mk X G a6 l6 c6 k6 (fun _ _ _ _ _ _ us hl => match us, hl with | [_, _], _ => rfl)
  have d7 : Df K mg "less" s_less ["f", "g"] := df_mk X G a7 l7 c7 k7 (fun _ _ _ _ _ _ us hl => match us, hl with | [_, _], _ => rfl)
  have d8 : Df K mg "times" s_times ["f", "g"] := df_mk X G a8 l8 c8 k8 (fun _ _ _ _ _ _ us hl => match us, hl with | [_, _], _ => rfl)
  have d9 : Df K mg "over" s_over ["f", "g"] := df_mk X G a9 l9 c9 k9 (fun _ _ _ _ _ _ us hl => match us, hl with | [_, _], _ => rfl)
  have d10 : Df K mg "is_fraction" s_is_fraction ["value"] := df_mk X G a10 l10 c10 k10 (fun _ _ _ _ _ _ us hl => match us, hl with | [_], _ => rfl)
  have d11 : Df K mg "is_below" s_is_below ["f", "g"] := df_mk X G a11 l11 c11 k11 (fun _ _ _ _ _ _ us hl => match us, hl with | [_, _], _ => rfl)
  have d13 : Df K mg "amount" s_amount ["f"] := df_mk X G a13 l13 c13 k13 (fun _ _ _ _ _ _ us hl => match us, hl with | [_], _ => rfl)
  have d14 : Df K mg "triangle_curve" s_triangle_curve ["n"] := df_mk X G a14 l14 c14 k14 (fun _ _ _ _ _ _ us hl => match us, hl with | [_], _ => rfl)
  have d15 : Df K mg "triangle_of" s_triangle_of ["n", "point"] := df_mk X G a15 l15 c15 k15 (fun _ _ _ _ _ _ us hl => match us, hl with | [_, _], _ => rfl)
  have d16 : Df K mg "triangle_point" s_triangle_point ["n", "triangle"] := df_mk X G a16 l16 c16 k16 (fun _ _ _ _ _ _ us hl => match us, hl with | [_, _], _ => rfl)
  have d17 : Df K mg "is_triangle" s_is_triangle ["n", "value"] := df_mk X G a17 l17 c17 k17 (fun _ _ _ _ _ _ us hl => match us, hl with | [_, _], _ => rfl)
  have d18 : Df K mg "squares_in_steps" s_squares_in_steps ["n", "triangle"] := df_mk X G a18 l18 c18 k18 (fun _ _ _ _ _ _ us hl => match us, hl with | [_, _], _ => rfl)
  have d20 : Df K mg "_law_begun" s__law_begun ["script", "k"] := df_mk X G a20 l20 c20 k20 (fun _ _ _ _ _ _ us hl => match us, hl with | [_, _], _ => rfl)
  have d21 : Df K mg "_law_draw" s__law_draw ["m", "below"] := df_mk X G a21 l21 c21 k21 (fun _ _ _ _ _ _ us hl => match us, hl with | [_, _], _ => rfl)
  have d22 : Df K mg "_law_of" s__law_of ["m", "some"] := df_mk X G a22 l22 c22 k22 (fun _ _ _ _ _ _ us hl => match us, hl with | [_, _], _ => rfl)
  have d23 : Df K mg "_law_between" s__law_between ["m", "size"] := df_mk X G a23 l23 c23 k23 (fun _ _ _ _ _ _ us hl => match us, hl with | [_, _], _ => rfl)
  have d24 : Df K mg "_law_common" s__law_common ["a", "b"] := df_mk X G a24 l24 c24 k24 (fun _ _ _ _ _ _ us hl => match us, hl with | [_, _], _ => rfl)
  have d25 : Df K mg "_law_class" s__law_class ["n"] := df_mk X G a25 l25 c25 k25 (fun _ _ _ _ _ _ us hl => match us, hl with | [_], _ => rfl)
  have d26 : Df K mg "_law_root" s__law_root ["n"] := df_mk X G a26 l26 c26 k26 (fun _ _ _ _ _ _ us hl => match us, hl with | [_], _ => rfl)
  have d27 : Df K mg "_law_cut" s__law_cut ["n", "d"] := df_mk X G a27 l27 c27 k27 (fun _ _ _ _ _ _ us hl => match us, hl with | [_, _], _ => rfl)
  have d28 : Df K mg "_law_plus" s__law_plus ["f", "g"] := df_mk X G a28 l28 c28 k28 (fun _ _ _ _ _ _ us hl => match us, hl with | [_, _], _ => rfl)
  have d29 : Df K mg "_law_less" s__law_less ["f", "g"] := df_mk X G a29 l29 c29 k29 (fun _ _ _ _ _ _ us hl => match us, hl with | [_, _], _ => rfl)
  have d30 : Df K mg "_law_by" s__law_by ["f", "g"] := df_mk X G a30 l30 c30 k30 (fun _ _ _ _ _ _ us hl => match us, hl with | [_, _], _ => rfl)
  have d31 : Df K mg "_law_over" s__law_over ["f", "g"] := df_mk X G a31 l31 c31 k31 (fun _ _ _ _ _ _ us hl => match us, hl with | [_, _], _ => rfl)
  have d32 : Df K mg "_law_five" s__law_five ["curve"] := df_mk X G a32 l32 c32 k32 (fun _ _ _ _ _ _ us hl => match us, hl with | [_], _ => rfl)
  have d33 : Df K mg "_law_cubic" s__law_cubic ["five", "x"] := df_mk X G a33 l33 c33 k33 (fun _ _ _ _ _ _ us hl => match us, hl with | [_, _], _ => rfl)
  have d34 : Df K mg "_law_bent" s__law_bent ["five", "x"] := df_mk X G a34 l34 c34 k34 (fun _ _ _ _ _ _ us hl => match us, hl with | [_, _], _ => rfl)
  have d35 : Df K mg "_law_on" s__law_on ["five", "point"] := df_mk X G a35 l35 c35 k35 (fun _ _ _ _ _ _ us hl => match us, hl with | [_, _], _ => rfl)
  have d36 : Df K mg "_law_turned" s__law_turned ["five", "point"] := df_mk X G a36 l36 c36 k36 (fun _ _ _ _ _ _ us hl => match us, hl with | [_, _], _ => rfl)
  have d37 : Df K mg "_law_sum" s__law_sum ["five", "one", "two"] := df_mk X G a37 l37 c37 k37 (fun _ _ _ _ _ _ us hl => match us, hl with | [_, _, _], _ => rfl)
  have d38 : Df K mg "_law_times_of" s__law_times_of ["five", "n", "point"] := df_mk X G a38 l38 c38 k38 (fun _ _ _ _ _ _ us hl => match us, hl with | [_, _, _], _ => rfl)
  have d39 : Df K mg "_law_amount" s__law_amount ["f"] := df_mk X G a39 l39 c39 k39 (fun _ _ _ _ _ _ us hl => match us, hl with | [_], _ => rfl)
  have d40 : Df K mg "_law_is_below" s__law_is_below ["f", "g"] := df_mk X G a40 l40 c40 k40 (fun _ _ _ _ _ _ us hl => match us, hl with | [_, _], _ => rfl)
  have d41 : Df K mg "_law_drawn" s__law_drawn ["m"] := df_mk X G a41 l41 c41 k41 (fun _ _ _ _ _ _ us hl => match us, hl with | [_], _ => rfl)
  have d42 : Df K mg "_law_point" s__law_point ["n", "triangle"] := df_mk X G a42 l42 c42 k42 (fun _ _ _ _ _ _ us hl => match us, hl with | [_, _], _ => rfl)
  have d43 : Df K mg "_law_triple" s__law_triple ["n", "point"] := df_mk X G a43 l43 c43 k43 (fun _ _ _ _ _ _ us hl => match us, hl with | [_, _], _ => rfl)
  have d44 : Df K mg "_law_is_fraction" s__law_is_fraction ["value"] := df_mk X G a44 l44 c44 k44 (fun _ _ _ _ _ _ us hl => match us, hl with | [_], _ => rfl)
  have d45 : Df K mg "_law_is_triangle" s__law_is_triangle ["n", "value"] := df_mk X G a45 l45 c45 k45 (fun _ _ _ _ _ _ us hl => match us, hl with | [_, _], _ => rfl)
  have d46 : Df K mg "_law_bent_triple" s__law_bent_triple ["m", "n", "triangle"] := df_mk X G a46 l46 c46 k46 (fun _ _ _ _ _ _ us hl => match us, hl with | [_, _, _], _ => rfl)
  have d47 : Df K mg "_law_signs_right" s__law_signs_right ["m", "n", "triangle"] := df_mk X G a47 l47 c47 k47 (fun _ _ _ _ _ _ us hl => match us, hl with | [_, _, _], _ => rfl)
  refine law_fd X G hfa a48 l48 c48 k48 (fun _ _ _ _ _ _ us hl => match us, hl with | [_], _ => rfl) (fun fd F base => ?_)
  have c_is_whole := k_is_whole (P := P) (w := w) (base := base) T d2 
  have c_is_tuple := k_is_tuple (P := P) (w := w) (base := base) T d3 
  have c_lowest := k_lowest (P := P) (w := w) (base := base) T d4 
  have c_is_below := k_is_below (P := P) (w := w) (base := base) T d11 
  have c_amount := k_amount (P := P) (w := w) (base := base) T d13 
  have c_triangle_curve := k_triangle_curve (P := P) (w := w) (base := base) T d14 
  have c_law_begun := k_law_begun (P := P) (w := w) (base := base) T d20 
  have c_law_draw := k_law_draw (P := P) (w := w) (base := base) T d21 
  have c_law_common := k_law_common (P := P) (w := w) (base := base) T d24 
  have c_law_class := k_law_class (P := P) (w := w) (base := base) T d25 
  have c_law_root := k_law_root (P := P) (w := w) (base := base) T d26 
  have c_law_five := k_law_five (P := P) (w := w) (base := base) T d32 
  have c_law_amount := k_law_amount (P := P) (w := w) (base := base) T d39 
  have c_law_is_below := k_law_is_below (P := P) (w := w) (base := base) T d40 
  have c_plus := k_plus (P := P) (w := w) (base := base) T d6 c_lowest
  have c_less := k_less (P := P) (w := w) (base := base) T d7 c_lowest
  have c_times := k_times (P := P) (w := w) (base := base) T d8 c_lowest
  have c_over := k_over (P := P) (w := w) (base := base) T d9 c_lowest
  have c_is_fraction := k_is_fraction (P := P) (w := w) (base := base) T d10 c_is_tuple c_is_whole
  have c_law_of := k_law_of (P := P) (w := w) (base := base) T d22 c_law_draw
  have c_law_between := k_law_between (P := P) (w := w) (base := base) T d23 c_law_draw
  have c_law_cut := k_law_cut (P := P) (w := w) (base := base) T d27 c_law_common
  have c_law_is_fraction := k_law_is_fraction (P := P) (w := w) (base := base) T d44 c_law_common
  have c_triangle_of := k_triangle_of (P := P) (w := w) (base := base) T d15 c_amount c_times c_over c_is_below c_less c_plus
  have c_triangle_point := k_triangle_point (P := P) (w := w) (base := base) T d16 c_plus c_over c_times
  have c_is_triangle := k_is_triangle (P := P) (w := w) (base := base) T d17 c_is_tuple c_plus c_times c_is_fraction
  have c_squares_in_steps := k_squares_in_steps (P := P) (w := w) (base := base) T d18 c_over c_less c_plus c_times
  have c_law_plus := k_law_plus (P := P) (w := w) (base := base) T d28 c_law_cut
  have c_law_less := k_law_less (P := P) (w := w) (base := base) T d29 c_law_cut
  have c_law_by := k_law_by (P := P) (w := w) (base := base) T d30 c_law_cut
  have c_law_over := k_law_over (P := P) (w := w) (base := base) T d31 c_law_cut
  have c_law_cubic := k_law_cubic (P := P) (w := w) (base := base) T d33 c_law_cut
  have c_law_bent := k_law_bent (P := P) (w := w) (base := base) T d34 c_law_cut
  have c_law_drawn := k_law_drawn (P := P) (w := w) (base := base) T d41 c_law_class c_law_root c_law_draw c_law_cut
  have c_law_on := k_law_on (P := P) (w := w) (base := base) T d35 c_law_by c_law_cubic c_law_plus c_law_bent
  have c_law_turned := k_law_turned (P := P) (w := w) (base := base) T d36 c_law_less c_law_bent
  have c_law_point := k_law_point (P := P) (w := w) (base := base) T d42 c_law_over c_law_plus c_law_by
  have c_law_triple := k_law_triple (P := P) (w := w) (base := base) T d43 c_law_by c_law_over c_law_amount c_law_is_below c_law_less c_law_plus
  have c_law_is_triangle := k_law_is_triangle (P := P) (w := w) (base := base) T d45 c_law_plus c_law_by c_law_is_fraction
  have c_law_bent_triple := k_law_bent_triple (P := P) (w := w) (base := base) T d46 c_law_of c_law_draw c_law_by c_law_over
  have c_law_sum := k_law_sum (P := P) (w := w) (base := base) T d37 c_law_less c_law_turned c_law_plus c_law_over c_law_by c_law_bent
  have c_law_signs_right := k_law_signs_right (P := P) (w := w) (base := base) T d47 c_triangle_point c_law_on c_triangle_of c_law_triple c_law_point c_law_five
  have c_law_times_of := k_law_times_of (P := P) (w := w) (base := base) T d38 c_law_turned c_law_sum
  exact k_law T F c_law_begun c_law_drawn c_law_five c_law_of c_law_sum c_law_triple c_triangle_point c_triangle_of c_law_times_of c_law_signs_right c_law_between c_law_point c_law_over c_law_bent_triple c_triangle_curve c_is_triangle c_law_less c_law_plus c_law_by c_law_is_triangle c_squares_in_steps
end K52
open PySem PySem.W PyProof.Rows
set_option maxRecDepth 100000 in
set_option maxHeartbeats 0 in
theorem PySem.Challenge.cw_pointsum_k52_whole_triangles_holds : PySem.Challenge.rw_pointsum_k52_whole_triangles.Holds := by
  w_on; o_law; k_head; (case hw => w_witness2)
  k_fill
  refine Gd.walk_g (l := PySem.Challenge.rw_pointsum_k52_whole_triangles) (n := 63) (k := 8) (x := "script") (sp := fun K => K52.sp_law K) rfl (by decide) rfl ⟨rfl, by decide, by decide⟩ (fun w h Y => PySem.W.kIn_of Y) ?F (fun K H a ns hl hS => ⟨a, ns, rfl, hS, hl, fun _ => rfl⟩)
  case F =>
    intro w mg fa h KX G hmg
    refine' K52.all_mk KX G hmg ?a2 ?l2 ?c2 ?k2 ?a3 ?l3 ?c3 ?k3 ?a4 ?l4 ?c4 ?k4 ?a6 ?l6 ?c6 ?k6 ?a7 ?l7 ?c7 ?k7 ?a8 ?l8 ?c8 ?k8 ?a9 ?l9 ?c9 ?k9 ?a10 ?l10 ?c10 ?k10 ?a11 ?l11 ?c11 ?k11 ?a13 ?l13 ?c13 ?k13 ?a14 ?l14 ?c14 ?k14 ?a15 ?l15 ?c15 ?k15 ?a16 ?l16 ?c16 ?k16 ?a17 ?l17 ?c17 ?k17 ?a18 ?l18 ?c18 ?k18 ?a20 ?l20 ?c20 ?k20 ?a21 ?l21 ?c21 ?k21 ?a22 ?l22 ?c22 ?k22 ?a23 ?l23 ?c23 ?k23 ?a24 ?l24 ?c24 ?k24 ?a25 ?l25 ?c25 ?k25 ?a26 ?l26 ?c26 ?k26 ?a27 ?l27 ?c27 ?k27 ?a28 ?l28 ?c28 ?k28 ?a29 ?l29 ?c29 ?k29 ?a30 ?l30 ?c30 ?k30 ?a31 ?l31 ?c31 ?k31 ?a32 ?l32 ?c32 ?k32 ?a33 ?l33 ?c33 ?k33 ?a34 ?l34 ?c34 ?k34 ?a35 ?l35 ?c35 ?k35 ?a36 ?l36 ?c36 ?k36 ?a37 ?l37 ?c37 ?k37 ?a38 ?l38 ?c38 ?k38 ?a39 ?l39 ?c39 ?k39 ?a40 ?l40 ?c40 ?k40 ?a41 ?l41 ?c41 ?k41 ?a42 ?l42 ?c42 ?k42 ?a43 ?l43 ?c43 ?k43 ?a44 ?l44 ?c44 ?k44 ?a45 ?l45 ?c45 ?k45 ?a46 ?l46 ?c46 ?k46 ?a47 ?l47 ?c47 ?k47 ?a48 ?l48 ?c48 ?k48 ?z_gcd ?z_type ?z_int ?z_isinstance ?z_tuple ?z_bool ?z_len ?z_all ?z_abs ?z_min ?z_range ?z_repr
    (case a2 => k_is); (case l2 => k_is); (case c2 => k_is); (case k2 => k_is); (case a3 => k_is); (case l3 => k_is); (case c3 => k_is); (case k3 => k_is)
    (case a4 => k_is); (case l4 => k_is); (case c4 => k_is); (case k4 => k_is); (case a6 => k_is); (case l6 => k_is); (case c6 => k_is); (case k6 => k_is)
    (case a7 => k_is); (case l7 => k_is); (case c7 => k_is); (case k7 => k_is); (case a8 => k_is); (case l8 => k_is); (case c8 => k_is); (case k8 => k_is)
    (case a9 => k_is); (case l9 => k_is); (case c9 => k_is); (case k9 => k_is); (case a10 => k_is); (case l10 => k_is); (case c10 => k_is); (case k10 => k_is)
    (case a11 => k_is); (case l11 => k_is); (case c11 => k_is); (case k11 => k_is); (case a13 => k_is); (case l13 => k_is); (case c13 => k_is); (case k13 => k_is)
    (case a14 => k_is); (case l14 => k_is); (case c14 => k_is); (case k14 => k_is); (case a15 => k_is); (case l15 => k_is); (case c15 => k_is); (case k15 => k_is)
    (case a16 => k_is); (case l16 => k_is); (case c16 => k_is); (case k16 => k_is); (case a17 => k_is); (case l17 => k_is); (case c17 => k_is); (case k17 => k_is)
    (case a18 => k_is); (case l18 => k_is); (case c18 => k_is); (case k18 => k_is); (case a20 => k_is); (case l20 => k_is); (case c20 => k_is); (case k20 => k_is)
    (case a21 => k_is); (case l21 => k_is); (case c21 => k_is); (case k21 => k_is); (case a22 => k_is); (case l22 => k_is); (case c22 => k_is); (case k22 => k_is)
    (case a23 => k_is); (case l23 => k_is); (case c23 => k_is); (case k23 => k_is); (case a24 => k_is); (case l24 => k_is); (case c24 => k_is); (case k24 => k_is)
    (case a25 => k_is); (case l25 => k_is); (case c25 => k_is); (case k25 => k_is); (case a26 => k_is); (case l26 => k_is); (case c26 => k_is); (case k26 => k_is)
    (case a27 => k_is); (case l27 => k_is); (case c27 => k_is); (case k27 => k_is); (case a28 => k_is); (case l28 => k_is); (case c28 => k_is); (case k28 => k_is)
    (case a29 => k_is); (case l29 => k_is); (case c29 => k_is); (case k29 => k_is); (case a30 => k_is); (case l30 => k_is); (case c30 => k_is); (case k30 => k_is)
    (case a31 => k_is); (case l31 => k_is); (case c31 => k_is); (case k31 => k_is); (case a32 => k_is); (case l32 => k_is); (case c32 => k_is); (case k32 => k_is)
    (case a33 => k_is); (case l33 => k_is); (case c33 => k_is); (case k33 => k_is); (case a34 => k_is); (case l34 => k_is); (case c34 => k_is); (case k34 => k_is)
    (case a35 => k_is); (case l35 => k_is); (case c35 => k_is); (case k35 => k_is); (case a36 => k_is); (case l36 => k_is); (case c36 => k_is); (case k36 => k_is)
    (case a37 => k_is); (case l37 => k_is); (case c37 => k_is); (case k37 => k_is); (case a38 => k_is); (case l38 => k_is); (case c38 => k_is); (case k38 => k_is)
    (case a39 => k_is); (case l39 => k_is); (case c39 => k_is); (case k39 => k_is); (case a40 => k_is); (case l40 => k_is); (case c40 => k_is); (case k40 => k_is)
    (case a41 => k_is); (case l41 => k_is); (case c41 => k_is); (case k41 => k_is); (case a42 => k_is); (case l42 => k_is); (case c42 => k_is); (case k42 => k_is)
    (case a43 => k_is); (case l43 => k_is); (case c43 => k_is); (case k43 => k_is); (case a44 => k_is); (case l44 => k_is); (case c44 => k_is); (case k44 => k_is)
    (case a45 => k_is); (case l45 => k_is); (case c45 => k_is); (case k45 => k_is); (case a46 => k_is); (case l46 => k_is); (case c46 => k_is); (case k46 => k_is)
    (case a47 => k_is); (case l47 => k_is); (case c47 => k_is); (case k47 => k_is); (case a48 => k_is); (case l48 => k_is); (case c48 => k_is); (case k48 => k_is)
    (case z_gcd => k_is); (case z_type => k_is); (case z_int => k_is); (case z_isinstance => k_is); (case z_tuple => k_is); (case z_bool => k_is); (case z_len => k_is); (case z_all => k_is)
    (case z_abs => k_is); (case z_min => k_is); (case z_range => k_is); (case z_repr => k_is)
