import PyProof.Rows.All
import Wide.All
import OpenK.AllK
import Wide.FinOn
import PyProof.ReprRoads
import HandS.ForMost
import HandS.Wide
import PyProof.StrLawsRepr
import PyProof.ReprLen
import HandS.TupAny
import HandS.Gcd
import HandS.More
import HandS.IsInst
import HandS.Style
import HandS.Defaults
import Flt.RightSqrt
import HandS.Codes
import HandS.TryOnly
import HandS.WideBits
import KE.BitLaws
import PySem.Challenge.RW_pointsum_k07_whole_alike_curves
set_option Elab.async false
set_option linter.all false
set_option maxRecDepth 100000
/-! Promises that know that no repr is under way around the call; repr of plain data. -/
namespace Gd
open PySem PySem.Spec PyProof.Rows L2
/-- as the layer's FnOk, for calls around which nothing is being shown -/
structure FnG (P : Program) (w : World) (K : PySem.W.Frag) (mg : Str → Option Value) (base : Heap) (k : Nat) (f : Addr) (fd : FuncData) (ps : List Str) (sp : Sp) : Prop where
  many : ∀ vs H Q E, sp vs H Q E → vs.length = ps.length
  goes : ∀ (A : Around) (outer : List Env) (s : Shared) (H : Hp) (args : Args) (us : List Value) (vs : List V) (Q : VK) (E : XK), A.guards = some [] → Room k A → Env0 P w K mg base A outer s H →
    BindsTo s fd args (ps.zip us) → Vals vs us → sp vs H Q E → codeAny (model P w) A (.call (.ref f) args) (CR CX0 outer P w H s Q E) s
section
variable {P : Program} {w : World} {K : PySem.W.Frag} {mg : Str → Option Value} {base : Heap}
theorem FnG.of {k : Nat} {f : Addr} {fd : FuncData} {ps : List Str} {sp : Sp} (F : FnOk P w K mg base CX0 k f fd ps sp) : FnG P w K mg base k f fd ps sp :=
  ⟨F.len, fun A outer s H args us vs Q E _ => F.run A outer s H args us vs Q E⟩
theorem FnG.up {j k : Nat} {f : Addr} {fd : FuncData} {ps : List Str} {sp : Sp} (F : FnG P w K mg base j f fd ps sp) (h : j ≤ k) : FnG P w K mg base k f fd ps sp :=
  ⟨F.many, fun A outer s H args us vs Q E hg hr => F.goes A outer s H args us vs Q E hg (hr.mono h)⟩
/-- a def by its body -/
theorem FnG.by_body {x qual : Str} {st : Stmt} {f : Addr} {fd : FuncData} {N ps : List Str} {k : Nat} {sp : Sp} (F : Fun K x qual st f fd) (S : FnScope N ps (defScope st)) (len : ∀ vs H Q E, sp vs H Q E → vs.length = ps.length)
    (hb : ∀ (cdv : Value) (A : Around) (outer : List Env) (s : Shared) (H : Hp) (vs : List V) (Q : VK) (E : XK), A.guards = some [] → Room k (A.deeper (envOfC qual (defScope st) s.heap.objs.size f cdv)) → sp vs H Q E →
      ∃ t, PSs (cxOf CX0 P w K mg base N qual (defScope st) f cdv A outer s H E).nox (defBody st) t ∧ t { nx := fun _ H' => Q .non H', rt := Q } (start N vs) H) : FnG P w K mg base (k + 1) f fd ps sp := by
  obtain ⟨oc, od, kV, doc, pm, an, cdv, ct, osl, rfl, lk, hcd⟩ := F.ex
  constructor
  · exact len
  · intro A outer s H args us vs Q E hg hr e0 hbi rv hsp
    have hlen := len _ _ _ _ hsp
    have lim : s.heap.NoLimit := e0.mod.nolimit.keeps fun b o e => (e0.bs b o e).1
    have inK : K.In s.heap := e0.mod.kin.keeps fun b o e => (e0.bs b o e).1
    have kinds : ∀ y ∈ ps.zip us, (defScope st).names.lookup y.1 = some .local ∨ ((defScope st).names.lookup y.1 = some .cell ∧ ((cellsFrom (s.heap.objs.size + 1) (defScope st).names []).lookup y.1).isSome = true) := by
      rintro ⟨n, v⟩ hy
      have hp := S.par n (List.of_mem_zip hy).1
      cases hp with
      | inl q => exact Or.inl q
      | inr q => exact Or.inr ⟨q, PySem.W.cellsFrom_some _ _ _ (Or.inl q)⟩
    refine codeAny_call_function hr.depth (inK _ _ lk) rfl S.co S.gen rfl (PySem.W.codeRec_of inK hcd) (hbi _ _ _ _ ?_)
    refine wpAny_newFunctionEnv_cells S.kind kinds fun env he s1 x1 => ?_
    subst he
    refine ⟨lim.keeps x1.toInCall.keep, codeAny_func ?_⟩
    obtain ⟨t, ht, hq⟩ := hb cdv A outer s H vs Q E hg (hr.deeper _) hsp
    have I0 : Inv (cxOf CX0 P w K mg base N qual (defScope st) f cdv A outer s H E) [] (start N vs) H s1 := inv_start S hr.hd e0 hlen rv x1
    refine wpAny_mono (ht.nox.run [] s1 (start N vs) H _ I0 hq) (fun fl s' hs => ?_) fun e s' hs => hs
    match fl, hs with
    | .ret u, ⟨v, σ', H', J, r1, q1⟩ => exact ⟨v, H', J.os, J.bare, J.base, J.hok, r1, q1⟩
    | .next, ⟨σ', H', J, q1⟩ => exact ⟨V.non, H', J.os, J.bare, J.base, J.hok, rfl, q1⟩
    | .brk, ⟨_, _, _, q1⟩ => exact q1.elim
    | .cont, ⟨_, _, _, q1⟩ => exact q1.elim
end
/-- f(e, ..) where every parameter is given -/
def tKal (sp : Sp) (t : TA) : TE := fun σ H Q => t σ H fun vs H1 => sp vs H1 Q E0
/-- a def that may be called by its name -/
structure Kl (P : Program) (w : World) (K : PySem.W.Frag) (mg : Str → Option Value) (base : Heap) (k : Nat) (x : Str) (sp : Sp) : Prop where
  ex : ∃ (f : Addr) (fd : FuncData) (ps : List Str), FnOk P w K mg base CX0 k f fd ps sp ∧ mg x = some (.ref f) ∧ PySem.W.keepIn K (.ref f) = true ∧ Binds K fd ps []
structure Kg (P : Program) (w : World) (K : PySem.W.Frag) (mg : Str → Option Value) (base : Heap) (k : Nat) (x : Str) (sp : Sp) : Prop where
  ex : ∃ (f : Addr) (fd : FuncData) (ps : List Str), FnG P w K mg base k f fd ps sp ∧ mg x = some (.ref f) ∧ PySem.W.keepIn K (.ref f) = true ∧ Binds K fd ps []
section
variable {X : Cx} {j k : Nat} {f : Addr} {fd : FuncData} {ps : List Str} {sp : Sp} {x : Str} {p pos : Pos} {e : Expr} {es : List Expr} {t : TA}
theorem run_g {pins : List (Addr × Obj)} {σ : L2.St} {H : Hp} {s : Shared} {Q : VK} {us : List Value} {vs : List V} (F : FnG X.prog X.w X.K X.mg X.base k f fd ps sp) (hg : X.A.guards = some []) (hr : Room k X.A) (hb : Binds X.K fd ps [])
    (I : Inv X pins σ H s) (r : Vals vs us) (h : sp vs H Q E0) : wpAny (model X.prog X.w) X.A (call (.ref f) us) (EP X pins σ Q) X.xe s := by
  have hl : us.length = ps.length := r.length.symm.trans (F.many _ _ _ _ h)
  have hbb := hb s us I.kIn (by rw [List.append_nil]; exact hl)
  rw [List.append_nil] at hbb
  refine wpAny_call (codeAny_mono (F.goes X.A X.stack s H ⟨us, []⟩ us vs Q E0 hg hr I.env0 hbb r h) fun res s' hq => ?_)
  match res, hq with
  | .ok (.ret u), hq => exact I.after hq
  | .error e, hq => exact (show False from hq).elim
theorem pe_g (c : Kg X.prog X.w X.K X.mg X.base k x sp) (hgd : X.A.guards = some []) (hr : Room j X.A) (hk : k ≤ j) (hg : Gl X x) (ha : PA X (e :: es) t)
    (hdb : (x == ("__debug__" : Str)) = false := by decide) (he : starEach (e :: es) X.env = (false, eval e X.env) :: starEach es X.env := by rfl) (hpl : (backTo pos (starEach es X.env)).any (·.1) = false := by rfl) :
    PE X (.Call (.Name x p) (e :: es) [] pos) (tKal sp t) := by
  obtain ⟨f, fd, ps, F, hm, kp, b⟩ := c.ex
  constructor
  intro pins s σ H Q I h
  refine wpAny_Call_Name_kw (ld_glob I hg hm ?_ hdb)
  refine PySem.W.callWith_K (h₀ := X.base) I.ok.mod.kin kp (thn (ha.run pos pins s σ H _ I h) fun us s1 ⟨vs, H1, I1, r, q⟩ => ⟨I1.kIn, ?_⟩) he hpl
  exact run_g F hgd (hr.mono hk) b I1 r q
theorem pe_k (c : Kl X.prog X.w X.K X.mg X.base k x sp) (hr : Room j X.A) (hk : k ≤ j) (hg : Gl X x) (ha : PA X (e :: es) t)
    (hdb : (x == ("__debug__" : Str)) = false := by decide) (he : starEach (e :: es) X.env = (false, eval e X.env) :: starEach es X.env := by rfl) (hpl : (backTo pos (starEach es X.env)).any (·.1) = false := by rfl) :
    PE X (.Call (.Name x p) (e :: es) [] pos) (tKal sp t) := by
  obtain ⟨f, fd, ps, F, hm, kp, b⟩ := c.ex
  have h := pe_call (sp := sp) (E := E0) (dvs := []) F (hr.mono hk) hg hm kp b .nil pass0 ha hdb he hpl (pos := pos) (p := p)
  constructor
  intro pins s σ H Q I q
  refine h.run pins s σ H Q I ?_
  have e2 : tCall sp [] E0 t = tKal sp t := by
    funext σ H Q
    show t σ H (fun vs H1 => sp (vs ++ []) H1 Q E0) = t σ H (fun vs H1 => sp vs H1 Q E0)
    congr 1
    funext vs H1
    rw [List.append_nil]
  rw [e2]
  exact q
end
/-! ### repr of plain data -/
mutual
/-- at most so many signs -/
def wt : PyData → Nat
  | .none | .bool _ => 5
  | .int _ => 1921
  | .str x => 10 * x.length + 2
  | .list xs | .tuple xs => wtAll xs + 3
  | .dict _ => 0
def wtAll : List PyData → Nat
  | [] => 0
  | x :: xs => wt x + 2 + wtAll xs
end
mutual
/-- data that can be shown: its ints below 1920 bits -/
def okD : PyData → Bool
  | .none | .bool _ => true
  | .int i => decide (i.natAbs.log2 < 1920)
  | .str x => x.cps.toList.all fun c => decide (c < 16 ^ 8)
  | .list xs | .tuple xs => okAll xs
  | .dict _ => false
def okAll : List PyData → Bool
  | [] => true
  | x :: xs => okD x && okAll xs
end
theorem one_br : (("[" : Str)).length = 1 := rfl
theorem one_br2 : (("]" : Str)).length = 1 := rfl
theorem one_pa : (("(" : Str)).length = 1 := rfl
theorem tup_wt (ts : List Str) : (tupleText ts).length ≤ piled ts + 3 := by
  have e3 : (((if ts.length == 1 then ",)" else ")" : String) : Str)).length ≤ 2 := by split <;> decide +kernel
  unfold tupleText
  rw [strLen_append, strLen_append, one_pa]
  cases ts with
  | nil =>
    have : (Str.join ", " []).length = 0 := by decide +kernel
    omega
  | cons x r =>
    have := join_length_add (x :: r) (List.cons_ne_nil _ _)
    omega
theorem sum_piled : ∀ ts : List Str, (ts.map (·.length)).sum + 2 * ts.length = piled ts
  | [] => rfl
  | t :: ts => by
    have ih := sum_piled ts
    rw [piled_cons, ← ih, List.map_cons, List.sum_cons, List.length_cons]
    omega
theorem lst_wt (ts : List Str) : (listText ts).length ≤ piled ts + 3 := by
  have h := textFrom_len_le ts 0 "["
  have h2 := sum_piled ts
  unfold listText
  rw [strLen_append, one_br2]
  rw [one_br] at h
  omega
mutual
theorem shown_wt : ∀ d : PyData, okD d = true → d.shown.length ≤ wt d ∧ d.showable = true ∧ d.hasDict = false
  | .none, _ => by
    refine ⟨?_, rfl, rfl⟩
    show (("None" : Str)).length ≤ 5
    decide +kernel
  | .bool b, _ => by
    refine ⟨?_, rfl, rfl⟩
    cases b <;> (show _ ≤ 5; decide +kernel)
  | .int i, h => by
    have h1 : i.natAbs.log2 < 1920 := of_decide_eq_true (by simpa only [okD] using h)
    refine ⟨?_, by simpa only [PyData.showable] using decide_eq_true h1, rfl⟩
    have e := int_text_length_le (k := 1920) (by decide) h1
    show (Str.ofString (toString i)).length ≤ 1921
    rw [PySem.ofString_length]
    exact e
  | .str x, h => by
    refine ⟨?_, rfl, rfl⟩
    have h1 : ∀ c ∈ x.cps.toList, c < 16 ^ 8 := fun c hc => of_decide_eq_true (List.all_eq_true.mp (by simpa only [okD] using h) c hc)
    exact StrLaws.reprText_len x h1
  | .list xs, h => by
    obtain ⟨h1, h2, h3⟩ := shown_wtAll xs (by simpa only [okD] using h)
    refine ⟨?_, by simpa only [PyData.showable] using h2, by simpa only [PyData.hasDict] using h3⟩
    simp only [PyData.shown, wt]
    exact Nat.le_trans (lst_wt _) (Nat.add_le_add_right h1 3)
  | .tuple xs, h => by
    obtain ⟨h1, h2, h3⟩ := shown_wtAll xs (by simpa only [okD] using h)
    refine ⟨?_, by simpa only [PyData.showable] using h2, by simpa only [PyData.hasDict] using h3⟩
    simp only [PyData.shown, wt]
    exact Nat.le_trans (tup_wt _) (Nat.add_le_add_right h1 3)
  | .dict _, h => by simp only [okD, Bool.false_eq_true] at h
theorem shown_wtAll : ∀ xs : List PyData, okAll xs = true → piled (PyData.shownAll xs) ≤ wtAll xs ∧ PyData.showableAll xs = true ∧ PyData.hasDictAll xs = false
  | [], _ => ⟨Nat.le_refl _, rfl, rfl⟩
  | x :: xs, h => by
    have h0 : (okD x && okAll xs) = true := by simpa only [okAll] using h
    rw [Bool.and_eq_true] at h0
    obtain ⟨a1, a2, a3⟩ := shown_wt x h0.1
    obtain ⟨b1, b2, b3⟩ := shown_wtAll xs h0.2
    refine ⟨?_, by simp only [PyData.showableAll, a2, b2, Bool.and_self], by simp only [PyData.hasDictAll, a3, b3, Bool.or_self]⟩
    simp only [PyData.shownAll, wtAll]
    rw [piled_cons]
    omega
end
/-- the text of data -/
def rRepr (K : PySem.W.Frag) : List V → Hp → VK → Prop := fun xs H Q => ∃ x d, xs = [x] ∧ Dp K H x d ∧ okD d = true ∧ d.depth ≤ 40 ∧ wt d ≤ 1000000 ∧ Q (.str d.shown) H
section
variable {X : Cx}
theorem call_reprD (hg : X.A.guards = some []) (hu : X.A.units + 64 < cLine) : CallR X (.builtin "repr") (rRepr X.K) := by
  intro pins s σ H xs us Q I r h
  obtain ⟨x, d, rfl, hd, h0, h3, hw, q⟩ := h
  obtain ⟨hz, h1, h2⟩ := shown_wt d h0
  have h4 : d.shown.length ≤ sizeLine := Nat.le_trans hz (Nat.le_trans hw (by decide))
  obtain ⟨u, rfl, hx⟩ := vals1 r
  obtain ⟨as, rd⟩ := Dp.reads I d x u hd hx
  cases hd with
  | non =>
    obtain rfl : u = Value.none := hx
    exact PySem.P.repr_of_none ⟨.str _, H, I.tok _, ⟨_, rfl⟩, q⟩
  | bl b =>
    obtain rfl : u = Value.bool b := hx
    exact PySem.P.repr_of_bool ⟨.str _, H, I.tok _, ⟨_, rfl⟩, q⟩
  | int i =>
    obtain ⟨t, rfl⟩ := hx
    exact PySem.P.repr_of_int (of_decide_eq_true h1) ⟨.str _, H, I.tok _, ⟨_, rfl⟩, q⟩
  | str z =>
    obtain ⟨t, rfl⟩ := hx
    exact PySem.P.repr_of_str ⟨.str _, H, I.tok _, ⟨_, rfl⟩, q⟩ h4
  | lst hs ha =>
    obtain rfl : u = Value.ref _ := hx
    refine repr_of_reads' rd h1 (PyData.noDict_hsm h2) hg (by omega) (fun _ _ z => z) (fun h' u tk hk => ?_) h4
    exact ⟨.str _, H, I.kept (t' := tk) hk, ⟨_, rfl⟩, q⟩
  | tup hs ha =>
    obtain rfl : u = Value.ref _ := hx
    refine repr_of_reads' rd h1 (PyData.noDict_hsm h2) hg (by omega) (fun _ _ z => z) (fun h' u tk hk => ?_) h4
    exact ⟨.str _, H, I.kept (t' := tk) hk, ⟨_, rfl⟩, q⟩
end
/-! ### the law's end -/
section
variable {P : Program} {w : World} {K : PySem.W.Frag} {mg mb : Str → Option Value} {k : Nat} {fa a : Addr} {fd : FuncData} {x : Str} {sp : Sp} {s1 : Shared} {vs : List Value} {ns : List Int}
/-- from a heap H in which at most the script is tracked -/
theorem law_from {H : Hp} (KX : K.In s1.heap) (hns : s1.heap.Ns mainGlobals mg) (hb : s1.heap.Ns builtinsNs mb) (hbb : ∀ x : Str, x ≠ "__name__" → mb x = bootBuiltins x) (hlim : s1.heap.NoLimit) (hg : s1.gens = #[])
    (ha : s1.heap.get? a = some { cls := .type "list", data := .seq vs.toArray }) (hr : Room k callerA) (F : ∀ base : Heap, K.In base → base.Ns mainGlobals mg → FnG P w K mg base k fa fd [x] sp)
    (hbind : ∀ (s : Shared) (u : Value), BindsTo s fd ⟨[u], []⟩ [(x, u)]) (hO : Only H) (hok : HOk P w H s1.heap) (hA : ∀ b, H b ≠ none → b = a) (hK : H a ≠ none → K.lookup a = none)
    (hsp : sp [.ref a] H (fun v _ => v = .bl true) fun _ _ _ => False) :
    codeAny (model P w) callerA (.call (.ref fa) ⟨[.ref a], []⟩) (fun r s' => r = .ok (.ret (.bool true)) ∧ OldK s1.heap s'.heap ∧ s'.os = s1.os ∧ AllBare s'.gens) s1 := by
  have untr : ∀ {b : Addr} {o : Obj} {es : Array DictEntry} {ep : Nat}, s1.heap.get? b = some o → o.data = .dict es ep → H b = none := by
    intro b o es ep e d
    cases q : H b with
    | none => rfl
    | some u =>
      obtain rfl : b = a := hA b (by rw [q]; exact Option.some_ne_none u)
      rw [ha] at e
      cases e
      exact absurd (show Data.seq vs.toArray _ = Data.dict es ep from d) (by intro z; cases z)
  have nsH : ∀ {b : Addr} {m : Str → Option Value}, s1.heap.Ns b m → (hidT s1.heap H).Ns b m := by
    rintro b m ⟨o, es, ep, e, d, r⟩
    exact ⟨o, es, ep, hidT_get e (untr e d), d, r⟩
  have inH : K.In (hidT s1.heap H) := by
    intro b o e
    refine hidT_get (KX b o e) ?_
    cases q : H b with
    | none => rfl
    | some u =>
      have hne : H b ≠ none := by rw [q]; exact Option.some_ne_none u
      obtain rfl : b = a := hA b hne
      rw [hK hne] at e
      cases e
  obtain ⟨mc, l1, l2⟩ := hlim
  have md : Mod K mg (hidT s1.heap H) := ⟨inH, nsH hns, ⟨mb, nsH hb, hbb⟩, ⟨mc, nsH l1, l2⟩⟩
  have e0 : Env0 P w K mg (hidT s1.heap H) callerA [] s1 H := by
    refine ⟨rfl, md, fun b o e => of_hidT e, Nat.le_of_eq (hidT_size _ _), trivial, ?_, hok, .of_eq hg⟩
    intro b hb
    cases (show b ∈ ([] : List Addr) from hb)
  have run := (F _ inH (nsH hns)).goes callerA [] s1 H ⟨[.ref a], []⟩ [.ref a] [.ref a] _ _ rfl hr e0 (hbind s1 (.ref a)) (.cons rfl .nil) hsp
  refine codeAny_mono run fun r s' h => ?_
  match r, h with
  | .error e, h => exact (show False from h).elim
  | .ok (.ret u), ⟨v, H', os, bare, un, hok', r', q⟩ =>
    obtain rfl : v = .bl true := q
    obtain rfl : u = Value.bool true := r'
    refine ⟨rfl, OldK.of_keep ?_, os, bare⟩
    intro b o e
    cases q : H b with
    | none => exact un.keep b o e q (fun z => by cases (show b ∈ ([] : List Addr) from z)) (fun z => by cases z)
    | some u =>
      rcases hO b with z | ⟨ob, xs, z⟩
      · rw [q] at z
        cases z
      · have k1 := (hok b _ z).1
        have k2 := (hok' b _ (un.frzs b ob _ z)).1
        rw [e] at k1
        cases k1
        exact k2
theorem law_g (KX : K.In s1.heap) (hns : s1.heap.Ns mainGlobals mg) (hb : s1.heap.Ns builtinsNs mb) (hbb : ∀ x : Str, x ≠ "__name__" → mb x = bootBuiltins x) (hlim : s1.heap.NoLimit) (hg : s1.gens = #[])
    (ha : s1.heap.get? a = some { cls := .type "list", data := .seq vs.toArray }) (hi : IntsAre vs ns) (hl : ns.length ≤ sizeLine) (hr : Room k callerA) (F : ∀ base : Heap, K.In base → base.Ns mainGlobals mg → FnG P w K mg base k fa fd [x] sp)
    (hbind : ∀ (s : Shared) (u : Value), BindsTo s fd ⟨[u], []⟩ [(x, u)]) (hsp : ∀ H : Hp, Only H → SqL K H a (ns.map V.int) → sp [.ref a] H (fun v _ => v = .bl true) fun _ _ _ => False) :
    codeAny (model P w) callerA (.call (.ref fa) ⟨[.ref a], []⟩) (fun r s' => r = .ok (.ret (.bool true)) ∧ OldK s1.heap s'.heap ∧ s'.os = s1.os ∧ AllBare s'.gens) s1 := by
  have rv := vals_ints hi
  have lv := hi.length
  cases hk : K.lookup a with
  | some o =>
    have e := KX a o hk
    rw [ha] at e
    cases e
    refine law_from (H := fun _ => none) KX hns hb hbb hlim hg ha hr F hbind (fun _ => Or.inl rfl) (fun b u z => ?_) (fun b z => absurd rfl z) (fun z => absurd rfl z) (hsp _ (fun _ => Or.inl rfl) (Or.inr ?_))
    · cases (show (none : Option HO) = some u from z)
    · exact ⟨_, vs.toArray, _, hk, rfl, rfl, rfl, by rw [List.size_toArray, lv]; exact hl, by simpa using rv⟩
  | none =>
    let ob : Obj := { cls := .type "list", data := .seq vs.toArray }
    have one : ∀ b, (if b = a then some (HO.frz ob (.lst (ns.map V.int))) else none) ≠ none → b = a := fun b z => by
      by_cases hb : b = a
      · exact hb
      · exact absurd (if_neg hb) z
    have only : Only (fun b => if b = a then some (HO.frz ob (.lst (ns.map V.int))) else none) := fun b => by
      by_cases hb : b = a
      · exact Or.inr ⟨_, _, if_pos hb⟩
      · exact Or.inl (if_neg hb)
    refine law_from (H := fun b => if b = a then some (HO.frz ob (.lst (ns.map V.int))) else none) KX hns hb hbb hlim hg ha hr F hbind only (fun b u z => ?_) one (fun _ => hk) (hsp _ only (Or.inl (Or.inr ⟨ob, if_pos rfl⟩)))
    by_cases hb : b = a
    · obtain rfl := Option.some.inj ((if_pos hb).symm.trans z)
      subst hb
      exact ⟨ha, by rw [List.length_map]; exact hl, vs, _, rv, ha⟩
    · cases (if_neg hb).symm.trans z
end
theorem walk_g {l : PySem.W.OpenLaw} {n k : Nat} {q : Program} {loose : List Str} {XP : (Str → Option Value) → Heap → Prop} {YP : World → Heap → Prop} {d : DefRec} {K : Params → PySem.W.Frag} {sp : PySem.W.Frag → Sp} {x : Str}
    (hn : l.most = some n) (hn2 : n ≤ sizeLine) (hdf : d.params.defaults = []) (hr : Room k callerA) (hY : ∀ (w : World) (h : Heap), YP w h → (K w.params).In h)
    (F : ∀ (w : World) (mg : Str → Option Value) (fa : Addr) (h : Heap), (K w.params).In h → h.Ns mainGlobals mg → mg d.name = some (.ref fa) → ∃ fd : FuncData, (∀ (s : Shared) (u : Value), BindsTo s fd ⟨[u], []⟩ [(x, u)]) ∧
        ∀ base : Heap, (K w.params).In base → base.Ns mainGlobals mg → FnG l.prog w (K w.params) mg base k fa fd [x] (sp (K w.params)))
    (hsp : ∀ (K : PySem.W.Frag) (H : Hp) (a : Addr) (ns : List Int), ns.length ≤ n → SqL K H a (ns.map V.int) → sp K [.ref a] H (fun v _ => v = .bl true) fun _ _ _ => False) :
    PySem.W.WalkO q loose XP YP l.row.toRowW d [] (fun f vs => PySem.call f vs) := by
  refine Att.attach_call hn hdf fun w s0 s1 mg mb fa o pm cd doc a vs ns G Y ho hd hcd hmg hobj hints hlen hg => ?_
  obtain ⟨fd, hb, hF⟩ := F w mg fa _ (hY w _ Y) G.T.g hmg
  exact law_g (hY w _ Y) G.T.g G.T.b G.T.builtins G.T.nolimit hg hobj hints (Nat.le_trans hlen hn2) hr hF hb fun H _ hS => hsp (K w.params) H a ns hlen hS
end Gd
set_option Elab.async false
set_option linter.all false
set_option maxRecDepth 100000
/-! Common words: sizes of ints, heaps that grow, defs of the text by their names. -/
namespace Gd
open PySem PySem.Spec PyProof.Rows L2
/-! ### sizes -/
def B (n : Nat) (x : Int) : Prop := x.natAbs < 2 ^ n
theorem B.up {m n : Nat} {x : Int} (h : B m x) (k : m ≤ n) : B n x := Nat.lt_of_lt_of_le h (Nat.pow_le_pow_right (by decide) k)
theorem B.add {m n : Nat} {x y : Int} (hx : B m x) (hy : B n y) : B (max m n + 1) (x + y) := by
  have h1 : x.natAbs < 2 ^ max m n := hx.up (Nat.le_max_left m n)
  have h2 : y.natAbs < 2 ^ max m n := hy.up (Nat.le_max_right m n)
  unfold B
  rw [Nat.pow_succ]
  omega
theorem B.neg {n : Nat} {x : Int} (hx : B n x) : B n (-x) := by
  unfold B at *
  omega
theorem B.sub {m n : Nat} {x y : Int} (hx : B m x) (hy : B n y) : B (max m n + 1) (x - y) := by
  rw [Int.sub_eq_add_neg]
  exact hx.add hy.neg
theorem B.mul {m n : Nat} {x y : Int} (hx : B m x) (hy : B n y) : B (m + n) (x * y) := wide_lt hx hy
theorem B.pow {m : Nat} {x : Int} (hx : B m x) : ∀ k : Nat, B (m * k + 1) (x ^ k)
  | 0 => by
    rw [Int.pow_zero]
    exact Nat.one_lt_two_pow (by omega)
  | k + 1 => by
    rw [Int.pow_succ]
    exact ((B.pow hx k).mul hx).up (by rw [Nat.mul_succ]; omega)
theorem B.lit {n : Nat} {x : Int} (h : x.natAbs < 2 ^ n) : B n x := h
theorem B.mulW {m n : Nat} {x y : Int} (hx : B m x) (hy : B n y) (h : m + n ≤ 900000) : CMulW x y :=
  wide_mul (hx.up (Nat.le_add_right m 1)) (hy.up (Nat.le_add_right n 1)) (by omega) (by omega) (by omega)
theorem B.mulL {n : Nat} {x y : Int} (hx : B n x) (h : n ≤ 64) : CMul x y := by
  have h1 := hx.up h
  unfold B at h1
  exact Or.inl ⟨by omega, by omega⟩
theorem B.mulR {n : Nat} {x y : Int} (hy : B n y) (h : n ≤ 64) : CMul x y := by
  have h1 := hy.up h
  unfold B at h1
  exact Or.inr ⟨by omega, by omega⟩
theorem B.log {n : Nat} {x : Int} (hx : B n x) (h : n ≤ 1900) : x.natAbs.log2 < 1920 := by
  have h1 : x.natAbs < 2 ^ 1901 := hx.up (by omega)
  exact PySem.Flt.log2_lt_of (by decide) (Nat.lt_of_lt_of_le h1 (Nat.pow_le_pow_right (by decide) (by decide)))
theorem B.between {n : Nat} {x : Int} (m : Int) (h0 : -m ≤ x) (h1 : x ≤ m) (h : m.natAbs < 2 ^ n) : B n x := by
  unfold B
  omega
theorem small {n : Nat} (h : n ≤ 1000) : n ≤ sizeLine := Nat.le_trans h (by decide)
/-! ### heaps -/
theorem Same.new {H : Hp} {p : Addr} {o : HO} (h : H p = none) : Same H (upd H p o) := fun b x e => by
  rw [upd_ne (ne_of_none e h)]
  exact e
theorem Same.put {H H1 : Hp} {p : Addr} {o : HO} (s : Same H H1) (h : H p = none) : Same H (upd H1 p o) := fun b x e => by
  rw [upd_ne (ne_of_none e h)]
  exact s b x e
theorem Same.rd {H H' : Hp} {a : Addr} {u : HO} (e : Same H H') (h : Rd H a u) : Rd H' a u := by
  rcases h with h | ⟨o, h⟩
  · exact Or.inl (e _ _ h)
  · exact Or.inr ⟨o, e _ _ h⟩
theorem Same.tup {K : PySem.W.Frag} {H H' : Hp} {a : Addr} {xs : List V} (e : Same H H') (h : SqT K H a xs) : SqT K H' a xs := by
  rcases h with h | h
  · exact Or.inl (Same.rd e h)
  · exact Or.inr h
theorem tup_of {K : PySem.W.Frag} {H : Hp} {a : Addr} {xs : List V} (h : H a = some (.tup xs)) : SqT K H a xs := Or.inl (Or.inl h)
theorem lst_of {K : PySem.W.Frag} {H : Hp} {a : Addr} {xs : List V} (h : H a = some (.lst xs)) : SqL K H a xs := Or.inl (Or.inl h)
/-- all but what stands at m is as it was -/
def But (m : Addr) (H H' : Hp) : Prop := ∀ b o, H b = some o → b ≠ m → H' b = some o
theorem But.refl (m : Addr) (H : Hp) : But m H H := fun _ _ e _ => e
theorem But.trans {m : Addr} {H H1 H2 : Hp} (a : But m H H1) (b : But m H1 H2) : But m H H2 := fun c o e n => b c o (a c o e n) n
theorem But.of {m : Addr} {H H' : Hp} (a : Same H H') : But m H H' := fun c o e _ => a c o e
theorem But.upd {m : Addr} {H : Hp} {o : HO} : But m H (upd H m o) := fun c x e n => by
  rw [upd_ne n]
  exact e
/-- the same where m was not known -/
theorem But.same {m : Addr} {H H1 H2 : Hp} (s : Same H H1) (b : But m H1 H2) (h : H m = none) : Same H H2 := fun c o e => b c o (s c o e) (ne_of_none e h)
/-- the slots said anew -/
theorem sig {nx : L2.St → Hp → Prop} {σ : L2.St} {H : Hp} (σ' : L2.St) (e : σ = σ') (h : nx σ' H) : nx σ H := e ▸ h
theorem sigN {nx : L2.St → Hp → Prop} {i : Nat} {v : V} {σ : L2.St} {H : Hp} (σ' : L2.St) (e : σ.set i (some v) = σ') (h : nx σ' H) : gName i v σ H nx := by
  subst e
  exact h
/-- a number of the module -/
theorem pe_kon {X : Cx} {x : Str} {pos : Pos} {v : V} (hg : Gl X x) (h : ∃ u, X.mg x = some u ∧ RelV v u) (hd : (x == ("__debug__" : Str)) = false := by decide) : PE X (.Name x pos) (tC v) := by
  obtain ⟨u, hm, r⟩ := h
  exact pe_glob hg hm r hd
/-- int(n) of a number -/
theorem call_intI {X : Cx} : CallR X (.type "int") (fun xs H Q => ∃ i, xs = [.int i] ∧ Q (.int i) H) := fun pins s σ H xs us Q I r h => call_int1 pins s σ H xs us Q I r (Or.inl h)
/-! ### the state of the draws: four entries -/
def mk4 (L s : Int) (c : Addr) (n : Int) : List (Key × V) := [(Sum.inr "left", .int L), (Sum.inr "seed", .int s), (Sum.inr "cells", .ref c), (Sum.inr "spot", .int n)]
theorem kn12 : ¬ (("left" : Str) = "seed") := by decide +kernel
theorem kn13 : ¬ (("left" : Str) = "cells") := by decide +kernel
theorem kn14 : ¬ (("left" : Str) = "spot") := by decide +kernel
theorem kn23 : ¬ (("seed" : Str) = "cells") := by decide +kernel
theorem kn24 : ¬ (("seed" : Str) = "spot") := by decide +kernel
theorem kn34 : ¬ (("cells" : Str) = "spot") := by decide +kernel
theorem kn21 : ¬ (("seed" : Str) = "left") := by decide +kernel
theorem kn31 : ¬ (("cells" : Str) = "left") := by decide +kernel
theorem kn41 : ¬ (("spot" : Str) = "left") := by decide +kernel
theorem kn42 : ¬ (("spot" : Str) = "seed") := by decide +kernel
theorem kn43 : ¬ (("spot" : Str) = "cells") := by decide +kernel
theorem kn32 : ¬ (("cells" : Str) = "seed") := by decide +kernel
section
variable {L s n : Int} {c : Addr}
theorem m4_left : valV (mk4 L s c n) (Sum.inr "left") = some (.int L) := by simp [valV, mk4, List.find?_cons]
theorem m4_seed : valV (mk4 L s c n) (Sum.inr "seed") = some (.int s) := by simp [valV, mk4, List.find?_cons, kn12]
theorem m4_cells : valV (mk4 L s c n) (Sum.inr "cells") = some (.ref c) := by simp [valV, mk4, List.find?_cons, kn13, kn23]
theorem m4_spot : valV (mk4 L s c n) (Sum.inr "spot") = some (.int n) := by simp [valV, mk4, List.find?_cons, kn14, kn24, kn34]
theorem m4_putL (y : Int) : putK (mk4 L s c n) (Sum.inr "left") (.int y) = mk4 y s c n := by simp [putK, mk4, kn21, kn31, kn41]
theorem m4_merge : mergeK [] (mk4 L s c n) = mk4 L s c n := by simp [mergeK, putK, mk4, List.foldl, kn12, kn13, kn14, kn23, kn24, kn34]
theorem m4_putS (y : Int) : putK (mk4 L s c n) (Sum.inr "spot") (.int y) = mk4 L s c y := by simp [putK, mk4, kn14, kn24, kn34]
end
/-- the state stands at m, with at most n draws out of the cells behind it -/
def MAt (H : Hp) (m c : Addr) (n : Nat) : Prop := ∃ (L s : Int) (cs : List Int) (k : Nat), H m = some (.dK (mk4 L s c (k : Int))) ∧ k ≤ n ∧ H c = some (.lst (cs.map V.int)) ∧ 0 < cs.length
theorem MAt.up {H : Hp} {m cl : Addr} {n n' : Nat} (h : MAt H m cl n) (k : n ≤ n') : MAt H m cl n' := by
  obtain ⟨L, s, cs, j, h1, h2, h3, h4⟩ := h
  exact ⟨L, s, cs, j, h1, Nat.le_trans h2 k, h3, h4⟩
theorem MAt.same {H H' : Hp} {m cl : Addr} {n : Nat} (h : MAt H m cl n) (e : Same H H') : MAt H' m cl n := by
  obtain ⟨L, s, cs, j, h1, h2, h3, h4⟩ := h
  exact ⟨L, s, cs, j, e _ _ h1, h2, e _ _ h3, h4⟩
theorem MAt.some {H : Hp} {m cl : Addr} {n : Nat} (h : MAt H m cl n) : ∃ kvs, H m = some (.dK kvs) := by
  obtain ⟨L, s, cs, j, h1, _⟩ := h
  exact ⟨_, h1⟩
theorem MAt.ne {H : Hp} {m cl p : Addr} {n : Nat} (h : MAt H m cl n) (e : H p = none) : m ≠ p ∧ cl ≠ p := by
  obtain ⟨L, s, cs, j, h1, h2, h3, h4⟩ := h
  exact ⟨ne_of_none h1 e, ne_of_none h3 e⟩
theorem MAt.put {H : Hp} {m cl p : Addr} {n : Nat} {o : HO} (h : MAt H m cl n) (e : m ≠ p ∧ cl ≠ p) : MAt (upd H p o) m cl n := by
  obtain ⟨L, s, cs, j, h1, h2, h3, h4⟩ := h
  refine ⟨L, s, cs, j, ?_, h2, ?_, h4⟩
  · rw [upd_ne e.1]
    exact h1
  · rw [upd_ne e.2]
    exact h3
/-- what the draws leave: fresh stays fresh -/
theorem But.free {m p cl : Addr} {H H' : Hp} {n : Nat} (b : But m H H') (h : MAt H' m cl n) (e : H' p = none) : H p = none := by
  obtain ⟨kvs, hm⟩ := h.some
  cases q : H p with
  | none => rfl
  | some o =>
    by_cases hp : p = m
    · subst hp
      rw [hm] at e
      cases e
    · rw [b p o q hp] at e
      cases e
theorem But.tup {m p cl : Addr} {H H' : Hp} {n : Nat} {xs : List V} (b : But m H H') (h : MAt H m cl n) (e : H p = some (.tup xs)) : H' p = some (.tup xs) := by
  obtain ⟨kvs, hm⟩ := h.some
  exact b p _ e (ne_of e hm (by intro z; cases z))
theorem But.lst {m p cl : Addr} {H H' : Hp} {n : Nat} {xs : List V} (b : But m H H') (h : MAt H m cl n) (e : H p = some (.lst xs)) : H' p = some (.lst xs) := by
  obtain ⟨kvs, hm⟩ := h.some
  exact b p _ e (ne_of e hm (by intro z; cases z))
theorem But.seqL {K : PySem.W.Frag} {m p cl : Addr} {H H' : Hp} {n : Nat} {xs : List V} (b : But m H H') (h : MAt H m cl n) (e : SqL K H p xs) : SqL K H' p xs := by
  obtain ⟨kvs, hm⟩ := h.some
  rcases e with (e | ⟨o, e⟩) | e
  · exact Or.inl (Or.inl (b p _ e (ne_of e hm (by intro z; cases z))))
  · exact Or.inl (Or.inr ⟨o, b p _ e (ne_of e hm (by intro z; cases z))⟩)
  · exact Or.inr e
theorem But.seqT {K : PySem.W.Frag} {m p cl : Addr} {H H' : Hp} {n : Nat} {xs : List V} (b : But m H H') (h : MAt H m cl n) (e : SqT K H p xs) : SqT K H' p xs := by
  obtain ⟨kvs, hm⟩ := h.some
  rcases e with (e | ⟨o, e⟩) | e
  · exact Or.inl (Or.inl (b p _ e (ne_of e hm (by intro z; cases z))))
  · exact Or.inl (Or.inr ⟨o, b p _ e (ne_of e hm (by intro z; cases z))⟩)
  · exact Or.inr e
/-! ### tuples -/
theorem catA_any {K : PySem.W.Frag} {H : Hp} {Q : VK} {a b : Addr} {xs ys : List V} (ha : SqT K H a xs) (hb : SqT K H b ys) (hl : xs.length + ys.length ≤ 1000) (k : ∀ p H', Same H H' → SqT K H' p (xs ++ ys) → Q (.ref p) H') : rCatA K (.ref a) (.ref b) H Q := by
  refine ⟨a, b, xs, ys, rfl, rfl, ha, hb, small hl, fun e => ?_, fun _ e => ?_, fun _ _ p hp => k p _ (Same.new hp) (tup_of upd_same)⟩
  · subst e
    exact k b H (Same.refl H) hb
  · subst e
    exact k a H (Same.refl H) (by rw [List.append_nil]; exact ha)
theorem slA_any {K : PySem.W.Frag} {H : Hp} {Q : VK} {a : Addr} {xs : List V} {lo hi : Option Int} (ha : SqT K H a xs) (k : ∀ p H', Same H H' → SqT K H' p (cutV xs lo hi) → Q (.ref p) H') : rSlA K (.ref a) lo hi H Q := by
  refine ⟨a, xs, rfl, ha, fun e => ?_, fun _ p hp => k p _ (Same.new hp) (tup_of upd_same)⟩
  refine k a H (Same.refl H) ?_
  have e2 : cutV xs lo hi = xs := by
    unfold cutV
    rw [e.1, e.2, List.drop_zero, Nat.sub_zero, List.take_length]
  rw [e2]
  exact ha
/-! ### defs by their names -/
structure Df (K : PySem.W.Frag) (mg : Str → Option Value) (x : Str) (st : Stmt) (ps : List Str) : Prop where
  ex : ∃ (f : Addr) (fd : FuncData), Fun K x x st f fd ∧ mg x = some (.ref f) ∧ Binds K fd ps []
section
variable {P : Program} {w : World} {K : PySem.W.Frag} {mg : Str → Option Value} {base : Heap} {x : Str} {st : Stmt} {N ps : List Str} {k : Nat} {sp : Sp}
theorem Kl.by_body (D : Df K mg x st ps) (S : FnScope N ps (defScope st)) (len : ∀ vs H Q E, sp vs H Q E → vs.length = ps.length)
    (hb : ∀ (f : Addr) (cdv : Value) (A : Around) (outer : List Env) (s : Shared) (H : Hp) (vs : List V) (Q : VK) (E : XK), Room k (A.deeper (envOfC x (defScope st) s.heap.objs.size f cdv)) → sp vs H Q E →
      ∃ t, PSs (cxOf CX0 P w K mg base N x (defScope st) f cdv A outer s H E).nox (defBody st) t ∧ t { nx := fun _ H' => Q .non H', rt := Q } (start N vs) H) : Kl P w K mg base (k + 1) x sp := by
  obtain ⟨f, fd, F, hm, b⟩ := D.ex
  exact ⟨f, fd, ps, F.ok S len (hb f), hm, F.kp, b⟩
theorem Kg.by_body (D : Df K mg x st ps) (S : FnScope N ps (defScope st)) (len : ∀ vs H Q E, sp vs H Q E → vs.length = ps.length)
    (hb : ∀ (f : Addr) (cdv : Value) (A : Around) (outer : List Env) (s : Shared) (H : Hp) (vs : List V) (Q : VK) (E : XK), A.guards = some [] → Room k (A.deeper (envOfC x (defScope st) s.heap.objs.size f cdv)) → sp vs H Q E →
      ∃ t, PSs (cxOf CX0 P w K mg base N x (defScope st) f cdv A outer s H E).nox (defBody st) t ∧ t { nx := fun _ H' => Q .non H', rt := Q } (start N vs) H) : Kg P w K mg base (k + 1) x sp := by
  obtain ⟨f, fd, F, hm, b⟩ := D.ex
  exact ⟨f, fd, ps, FnG.by_body F S len (hb f), hm, F.kp, b⟩
theorem df_mk {h : Heap} {f : Addr} {oc : Value} {od an : Option Addr} {osl : Array (Option Value)} {kV doc pm cdv ct : Value} (X : K.In h) (G : h.Ns mainGlobals mg) (a : PySem.W.nsIn K mainGlobals x = some (some (.ref f)))
    (l : K.lookup f = some ⟨oc, od, .func (PySem.W.fnOf x x (defArgs st) (defBody st) (defScope st) .none kV doc pm an cdv ct), osl⟩) (c : PySem.W.codeIn K cdv x = true) (kp : PySem.W.keepIn K (.ref f) = true)
    (hb : ∀ (kV doc pm : Value) (an : Option Addr) (cdv ct : Value) (us : List Value), us.length = ps.length → bindArgs (PySem.W.fnOf x x (defArgs st) (defBody st) (defScope st) .none kV doc pm an cdv ct) ⟨us, []⟩ = pure (ps.zip us)) : Df K mg x st ps :=
  ⟨f, _, fun_mk l c kp, PySem.W.mg_of X G a, (fun_mk l c kp).binds hb⟩
theorem law_fd {h : Heap} {fa f : Addr} {j : Nat} {oc : Value} {od an : Option Addr} {osl : Array (Option Value)} {kV doc pm cdv ct : Value} (X : K.In h) (G : h.Ns mainGlobals mg) (hfa : mg "law" = some (.ref fa)) (a : PySem.W.nsIn K mainGlobals "law" = some (some (.ref f)))
    (l : K.lookup f = some ⟨oc, od, .func (PySem.W.fnOf "law" "law" (defArgs st) (defBody st) (defScope st) .none kV doc pm an cdv ct), osl⟩) (c : PySem.W.codeIn K cdv "law" = true) (kp : PySem.W.keepIn K (.ref f) = true)
    (hb : ∀ (kV doc pm : Value) (an : Option Addr) (cdv ct : Value) (us : List Value), us.length = 1 → bindArgs (PySem.W.fnOf "law" "law" (defArgs st) (defBody st) (defScope st) .none kV doc pm an cdv ct) ⟨us, []⟩ = pure ((["script"] : List Str).zip us))
    (go : ∀ fd, Fun K "law" "law" st fa fd → ∀ base : Heap, FnG P w K mg base j fa fd ["script"] sp) :
    ∃ fd : FuncData, (∀ (s : Shared) (u : Value), BindsTo s fd ⟨[u], []⟩ [("script", u)]) ∧ ∀ base : Heap, K.In base → base.Ns mainGlobals mg → FnG P w K mg base j fa fd ["script"] sp := by
  have e := hfa.symm.trans (PySem.W.mg_of X G a)
  cases e
  exact ⟨_, fun s u => .of_eq (hb kV doc pm an cdv ct [u] rfl), fun base _ _ => go _ (fun_mk l c kp) base⟩
end
end Gd
set_option linter.all false
/-! fractions: plain Lean -/
namespace QM
/-- n / d in lowest terms -/
def sg (n d : Int) : Int := if d < 0 then -((Nat.gcd n.natAbs d.natAbs : Nat) : Int) else ((Nat.gcd n.natAbs d.natAbs : Nat) : Int)
theorem sg_ne {n d : Int} (h : d ≠ 0) : sg n d ≠ 0 := by
  have hp : 0 < Nat.gcd n.natAbs d.natAbs := Nat.gcd_pos_of_pos_right _ (by omega)
  unfold sg
  split <;> omega
theorem fdiv_neg' (a b : Int) : (-a).fdiv (-b) = a.fdiv b := by
  exact Int.neg_fdiv_neg a b
theorem fr_num {n d : Int} (h : d ≠ 0) : n.fdiv (sg n d) = (Rat.divInt n d).num := by
  rw [Rat.num_divInt]
  unfold sg
  have g0 : ((Int.gcd d n : Nat) : Int) = ((Nat.gcd n.natAbs d.natAbs : Nat) : Int) := by rw [Int.gcd_comm]; rfl
  split
  · rename_i e
    rw [Int.sign_eq_neg_one_of_neg e, g0, Int.neg_mul, Int.one_mul]
    have e1 : n.fdiv (-((Nat.gcd n.natAbs d.natAbs : Nat) : Int)) = (-n).fdiv ((Nat.gcd n.natAbs d.natAbs : Nat) : Int) := by
      rw [← fdiv_neg' n, Int.neg_neg]
    rw [e1, Int.fdiv_eq_ediv_of_nonneg _ (by omega)]
  · rename_i e
    rw [Int.sign_eq_one_of_pos (by omega), g0, Int.one_mul, Int.fdiv_eq_ediv_of_nonneg _ (by omega)]
theorem fr_den {n d : Int} (h : d ≠ 0) : d.fdiv (sg n d) = ((Rat.divInt n d).den : Int) := by
  rw [Rat.den_divInt, if_neg h]
  have g0 : Int.gcd d n = Nat.gcd n.natAbs d.natAbs := by rw [Int.gcd_comm]; rfl
  rw [g0]
  unfold sg
  split
  · rename_i e
    have e1 : d.fdiv (-((Nat.gcd n.natAbs d.natAbs : Nat) : Int)) = (-d).fdiv ((Nat.gcd n.natAbs d.natAbs : Nat) : Int) := by
      rw [← fdiv_neg' d, Int.neg_neg]
    rw [e1, Int.fdiv_eq_ediv_of_nonneg _ (by omega), Int.natCast_ediv]
    congr 1
    omega
  · rename_i e
    rw [Int.fdiv_eq_ediv_of_nonneg _ (by omega), Int.natCast_ediv]
    congr 1
    omega
theorem den_ne (a : Rat) : (a.den : Int) ≠ 0 := by
  have := a.den_nz
  omega
theorem denR (a : Rat) : ((a.den : Int) : Rat) ≠ 0 := by
  intro h
  exact den_ne a (by exact_mod_cast h)
theorem as_div (a : Rat) : a = (a.num : Rat) / ((a.den : Int) : Rat) := by
  rw [← Rat.divInt_eq_div, Rat.num_divInt_den]
theorem fr_add (a b : Rat) : Rat.divInt (a.num * b.den + b.num * a.den) (a.den * b.den) = a + b := by
  have ha := denR a
  have hb := denR b
  have ea := as_div a
  have eb := as_div b
  rw [Rat.divInt_eq_div, Rat.intCast_add, Rat.intCast_mul, Rat.intCast_mul, Rat.intCast_mul]
  grind
theorem fr_sub (a b : Rat) : Rat.divInt (a.num * b.den - b.num * a.den) (a.den * b.den) = a - b := by
  have ha := denR a
  have hb := denR b
  have ea := as_div a
  have eb := as_div b
  rw [Rat.divInt_eq_div, Rat.intCast_sub, Rat.intCast_mul, Rat.intCast_mul, Rat.intCast_mul]
  grind
theorem fr_mul (a b : Rat) : Rat.divInt (a.num * b.num) (a.den * b.den) = a * b := by
  have ha := denR a
  have hb := denR b
  have ea := as_div a
  have eb := as_div b
  rw [Rat.divInt_eq_div, Rat.intCast_mul, Rat.intCast_mul]
  grind
theorem num_ne {a : Rat} (h : a ≠ 0) : a.num ≠ 0 := fun e => h (Rat.num_eq_zero.mp e)
theorem fr_div (a b : Rat) (h : b ≠ 0) : Rat.divInt (a.num * b.den) (a.den * b.num) = a / b := by
  have ha := denR a
  have hb := denR b
  have ea := as_div a
  have eb := as_div b
  have hn : (b.num : Rat) ≠ 0 := fun e => num_ne h (by exact_mod_cast e)
  rw [Rat.divInt_eq_div, Rat.intCast_mul, Rat.intCast_mul]
  grind
theorem mul_ne {a b : Int} (h : a ≠ 0) (k : b ≠ 0) : a * b ≠ 0 := Int.mul_ne_zero h k
/-! sizes -/
def RB (n : Nat) (q : Rat) : Prop := q.num.natAbs < 2 ^ n ∧ (q.den : Int).natAbs < 2 ^ n
theorem RB.up {m n : Nat} {q : Rat} (h : RB m q) (k : m ≤ n) : RB n q := ⟨Nat.lt_of_lt_of_le h.1 (Nat.pow_le_pow_right (by decide) k), Nat.lt_of_lt_of_le h.2 (Nat.pow_le_pow_right (by decide) k)⟩
theorem dv_le {x g : Int} (h : g ≠ 0) (d : g ∣ x) : (x.fdiv g).natAbs ≤ x.natAbs := by
  obtain ⟨k, rfl⟩ := d
  rw [Int.mul_fdiv_cancel_left k h, Int.natAbs_mul]
  have h1 : 1 ≤ g.natAbs := by omega
  have h2 : 1 * k.natAbs ≤ g.natAbs * k.natAbs := Nat.mul_le_mul_right _ h1
  omega
theorem sg_dvd (n d : Int) : sg n d ∣ n := by
  have h : ((Nat.gcd n.natAbs d.natAbs : Nat) : Int) ∣ n := Int.ofNat_dvd_left.mpr (Nat.gcd_dvd_left _ _)
  unfold sg
  split
  · exact Int.neg_dvd.mpr h
  · exact h
theorem sg_dvd2 (n d : Int) : sg n d ∣ d := by
  have h : ((Nat.gcd n.natAbs d.natAbs : Nat) : Int) ∣ d := Int.ofNat_dvd_left.mpr (Nat.gcd_dvd_right _ _)
  unfold sg
  split
  · exact Int.neg_dvd.mpr h
  · exact h
theorem RB.of {m : Nat} {n d : Int} (h : d ≠ 0) (hn : n.natAbs < 2 ^ m) (hd : d.natAbs < 2 ^ m) : RB m (Rat.divInt n d) := by
  unfold RB
  rw [← fr_num h, ← fr_den (n := n) h]
  exact ⟨Nat.lt_of_le_of_lt (dv_le (sg_ne h) (sg_dvd n d)) hn, Nat.lt_of_le_of_lt (dv_le (sg_ne h) (sg_dvd2 n d)) hd⟩
theorem pmul {m n a b : Nat} (ha : a < 2 ^ m) (hb : b < 2 ^ n) : a * b < 2 ^ (m + n) := by
  rw [Nat.pow_add]
  rcases Nat.eq_zero_or_pos b with h | h
  · subst h
    rw [Nat.mul_zero]
    exact Nat.mul_pos (Nat.two_pow_pos m) (Nat.two_pow_pos n)
  · exact Nat.mul_lt_mul_of_lt_of_le ha (Nat.le_of_lt hb) (Nat.two_pow_pos n)
theorem RB.add {m n : Nat} {a b : Rat} (ha : RB m a) (hb : RB n b) : RB (m + n + 1) (a + b) := by
  rw [← fr_add]
  have h1 := pmul ha.1 hb.2
  have h2 := pmul ha.2 hb.1
  have h3 := pmul ha.2 hb.2
  refine RB.of (mul_ne (den_ne a) (den_ne b)) ?_ ?_
  · rw [Nat.pow_succ]
    have h4 : (a.num * ↑b.den + b.num * ↑a.den).natAbs ≤ (a.num * ↑b.den).natAbs + (b.num * ↑a.den).natAbs := Int.natAbs_add_le _ _
    rw [Int.natAbs_mul, Int.natAbs_mul, Nat.mul_comm b.num.natAbs] at h4
    omega
  · rw [Nat.pow_succ, Int.natAbs_mul]
    omega
theorem RB.neg {m : Nat} {a : Rat} (ha : RB m a) : RB m (-a) := by
  unfold RB at *
  rw [Rat.neg_num, Rat.neg_den, Int.natAbs_neg]
  exact ha
theorem RB.sub {m n : Nat} {a b : Rat} (ha : RB m a) (hb : RB n b) : RB (m + n + 1) (a - b) := by
  rw [Rat.sub_eq_add_neg]
  exact ha.add hb.neg
theorem RB.mul {m n : Nat} {a b : Rat} (ha : RB m a) (hb : RB n b) : RB (m + n) (a * b) := by
  rw [← fr_mul]
  refine RB.of (mul_ne (den_ne a) (den_ne b)) ?_ ?_
  · rw [Int.natAbs_mul]
    exact pmul ha.1 hb.1
  · rw [Int.natAbs_mul]
    exact pmul ha.2 hb.2
theorem RB.div {m n : Nat} {a b : Rat} (h : b ≠ 0) (ha : RB m a) (hb : RB n b) : RB (m + n) (a / b) := by
  rw [← fr_div a b h]
  refine RB.of (mul_ne (den_ne a) (num_ne h)) ?_ ?_
  · rw [Int.natAbs_mul]
    exact pmul ha.1 hb.2
  · rw [Int.natAbs_mul]
    exact pmul ha.2 hb.1
theorem RB.int {m : Nat} {n : Int} (h : n.natAbs < 2 ^ m) (k : 1 ≤ m) : RB m (n : Rat) := by
  unfold RB
  rw [Rat.num_intCast, Rat.den_intCast]
  exact ⟨h, Nat.lt_of_lt_of_le (by decide : 1 < 2 ^ 1) (Nat.pow_le_pow_right (by decide) k)⟩
theorem RB.pow {m : Nat} {a : Rat} (ha : RB m a) : ∀ k : Nat, RB (m * k + 1) (a ^ k)
  | 0 => by
    rw [Rat.pow_zero]
    exact RB.int (n := 1) (by rw [Nat.mul_zero]; decide) (by omega)
  | k + 1 => by
    rw [Rat.pow_succ]
    exact (RB.mul (RB.pow ha k) ha).up (by rw [Nat.mul_succ]; omega)
/-! powers -/
theorem npow (a : Rat) (k : Nat) : (a ^ k).num = a.num ^ k := Rat.num_pow a k
theorem dpow (a : Rat) (k : Nat) : (a ^ k).den = a.den ^ k := Rat.den_pow a k
theorem le_npow (a : Nat) {k : Nat} (h : 1 ≤ k) : a ≤ a ^ k := by
  rcases Nat.eq_zero_or_pos a with e | e
  · omega
  · calc a = a ^ 1 := (Nat.pow_one a).symm
      _ ≤ a ^ k := Nat.pow_le_pow_right e h
theorem RB.root {m k : Nat} {a : Rat} (h : 1 ≤ k) (ha : RB m (a ^ k)) : RB m a := by
  unfold RB at *
  rw [npow, dpow, Int.natAbs_pow] at ha
  refine ⟨Nat.lt_of_le_of_lt (le_npow _ h) ha.1, ?_⟩
  have e : ((a.den ^ k : Nat) : Int).natAbs = a.den ^ k := Int.natAbs_natCast _
  rw [e] at ha
  rw [Int.natAbs_natCast]
  exact Nat.lt_of_le_of_lt (le_npow _ h) ha.2
theorem num_pos {a : Rat} (h : 0 < a) : 0 < a.num := by
  have h1 : 0 ≤ a.num := Rat.num_nonneg.mpr (Rat.le_of_lt h)
  have h2 : a.num ≠ 0 := num_ne (fun e => by rw [e] at h; exact absurd h (by decide))
  omega
end QM
set_option linter.all false
/-! roots: plain Lean -/
namespace QM
theorem dvd_pow' (a : Nat) {k : Nat} (h : k ≠ 0) : a ∣ a ^ k := by
  obtain ⟨j, rfl⟩ := Nat.exists_eq_succ_of_ne_zero h
  rw [Nat.pow_succ]
  exact Nat.dvd_mul_left a _
theorem ipow_le {a b : Int} (ha : 0 ≤ a) (h : a ≤ b) (k : Nat) : a ^ k ≤ b ^ k := by
  have h1 : a.natAbs ^ k ≤ b.natAbs ^ k := Nat.pow_le_pow_left (by omega) k
  rw [← Int.natAbs_pow, ← Int.natAbs_pow] at h1
  have h2 : 0 ≤ a ^ k := Int.pow_nonneg ha
  have h3 : 0 ≤ b ^ k := Int.pow_nonneg (by omega)
  omega
theorem pow_inj {a b k : Nat} (h : k ≠ 0) (e : a ^ k = b ^ k) : a = b := by
  rcases Nat.lt_trichotomy a b with x | x | x
  · have := Nat.pow_lt_pow_left x h
    omega
  · exact x
  · have := Nat.pow_lt_pow_left x h
    omega
theorem ipow_inj {a b : Int} {k : Nat} (h : k ≠ 0) (ha : 0 ≤ a) (hb : 0 ≤ b) (e : a ^ k = b ^ k) : a = b := by
  have h1 : a.natAbs ^ k = b.natAbs ^ k := by rw [← Int.natAbs_pow, ← Int.natAbs_pow, e]
  have := pow_inj h h1
  omega
theorem qpow_inj {a b : Rat} {k : Nat} (h : k ≠ 0) (ha : 0 < a) (hb : 0 < b) (e : a ^ k = b ^ k) : a = b := by
  have h1 := num_pos ha
  have h2 := num_pos hb
  have e1 : a.num ^ k = b.num ^ k := by rw [← npow, ← npow, e]
  have e2 : a.den ^ k = b.den ^ k := by rw [← dpow, ← dpow, e]
  exact Rat.ext (ipow_inj h (by omega) (by omega) e1) (pow_inj h e2)
/-- the root of a fraction from those of its parts -/
theorem rootQ {k : Nat} (hk : k ≠ 0) {q : Rat} {s t : Int} (hs0 : 0 < s) (ht0 : 0 < t) (hs : s ^ k = q.num) (ht : t ^ k = (q.den : Int)) : ∃ r : Rat, 0 < r ∧ r ^ k = q ∧ r.num = s ∧ (r.den : Int) = t := by
  have e1 : s.natAbs ^ k = q.num.natAbs := by rw [← Int.natAbs_pow, hs]
  have e2 : t.natAbs ^ k = q.den := by
    have h : (t ^ k).natAbs = ((q.den : Int)).natAbs := by rw [ht]
    rw [Int.natAbs_pow, Int.natAbs_natCast] at h
    exact h
  have hc : Nat.Coprime s.natAbs t.natAbs := by
    have c : Nat.Coprime (s.natAbs ^ k) (t.natAbs ^ k) := by
      rw [e1, e2]
      exact q.reduced
    have d1 : s.natAbs ∣ s.natAbs ^ k := dvd_pow' _ hk
    have d2 : t.natAbs ∣ t.natAbs ^ k := dvd_pow' _ hk
    exact Nat.Coprime.coprime_dvd_left d1 (Nat.Coprime.coprime_dvd_right d2 c)
  have hz : t.natAbs ≠ 0 := by omega
  refine ⟨⟨s, t.natAbs, hz, hc⟩, ?_, ?_, rfl, by show ((t.natAbs : Nat) : Int) = t; omega⟩
  · have h1 : (0 : Rat) ≤ ⟨s, t.natAbs, hz, hc⟩ := Rat.num_nonneg.mp (by show 0 ≤ s; omega)
    have h2 : (⟨s, t.natAbs, hz, hc⟩ : Rat) ≠ 0 := fun e => by
      have h3 : s = 0 := congrArg Rat.num e
      omega
    exact Rat.lt_of_le_of_ne h1 (fun e => h2 e.symm)
  · refine Rat.ext ?_ ?_
    · rw [npow]
      exact hs
    · rw [dpow]
      exact e2
/-- Newton's step -/
theorem mono {r s : Int} (hr : 0 ≤ r) (hs : 0 ≤ s) (k : Nat) : r * s ^ k + s * r ^ k ≤ r * r ^ k + s * s ^ k := by
  have key : 0 ≤ (r ^ k - s ^ k) * (r - s) := by
    rcases Int.le_total r s with h | h
    · have h1 : r ^ k ≤ s ^ k := ipow_le hr h k
      have := Int.mul_nonneg (show 0 ≤ s ^ k - r ^ k by omega) (show 0 ≤ s - r by omega)
      grind
    · have h1 : s ^ k ≤ r ^ k := ipow_le hs h k
      exact Int.mul_nonneg (by omega) (by omega)
  grind
theorem amgm {r s : Int} (hr : 0 ≤ r) (hs : 0 ≤ s) : ∀ k : Nat, ((k : Int) + 1) * s * r ^ k ≤ (k : Int) * (r * r ^ k) + s * s ^ k
  | 0 => by simp
  | k + 1 => by
    have h1 := amgm hr hs k
    have h2 := mono hr hs (k + 1)
    have h3 := Int.mul_le_mul_of_nonneg_left h1 hr
    rw [Int.pow_succ, Int.pow_succ] at *
    push_cast
    grind
theorem newton_ge {n r s : Int} {k : Nat} (hr : 1 ≤ r) (hs : 0 ≤ s) (h : s ^ (k + 1) ≤ n) : s ≤ ((k : Int) * r + n.fdiv (r ^ k)).fdiv ((k : Int) + 1) := by
  have hp : 0 < r ^ k := Int.pow_pos (by omega)
  have h1 := amgm (show 0 ≤ r by omega) hs k
  rw [Int.pow_succ] at h
  rw [Int.fdiv_eq_ediv_of_nonneg _ (Int.le_of_lt hp), Int.fdiv_eq_ediv_of_nonneg _ (by omega)]
  rw [Int.le_ediv_iff_mul_le (by omega)]
  have h2 : ((k : Int) + 1) * s - k * r ≤ n / r ^ k := by
    rw [Int.le_ediv_iff_mul_le hp]
    grind
  grind
theorem newton_le {n r : Int} {k : Nat} (hr : 1 ≤ r) (h : r ≤ ((k : Int) * r + n.fdiv (r ^ k)).fdiv ((k : Int) + 1)) : r ^ (k + 1) ≤ n := by
  have hp : 0 < r ^ k := Int.pow_pos (by omega)
  rw [Int.fdiv_eq_ediv_of_nonneg _ (Int.le_of_lt hp), Int.fdiv_eq_ediv_of_nonneg _ (by omega)] at h
  rw [Int.le_ediv_iff_mul_le (by omega)] at h
  have h2 : r ≤ n / r ^ k := by grind
  rw [Int.le_ediv_iff_mul_le hp] at h2
  rw [Int.pow_succ]
  grind
theorem start_ge {n s : Int} {k b : Nat} (hs : 0 ≤ s) (hb : n.natAbs < 2 ^ b) (hk : 0 < k) (h : s ^ k ≤ n) : s ≤ 1 * 2 ^ (b / k + 1) := by
  rw [Int.one_mul]
  rcases Int.le_total s (2 ^ (b / k + 1)) with z | z
  · exact z
  · exfalso
    have h1 : ((2 : Int) ^ (b / k + 1)) ^ k ≤ s ^ k := ipow_le (Int.le_of_lt (Int.pow_pos (by decide))) z k
    rw [← Int.pow_mul] at h1
    have h2 : b ≤ (b / k + 1) * k := by
      have := Nat.lt_div_mul_add (a := b) hk
      rw [Nat.add_mul, Nat.one_mul]
      omega
    have h3 : (2 : Nat) ^ b ≤ 2 ^ ((b / k + 1) * k) := Nat.pow_le_pow_right (by decide) h2
    have h4 : ((2 ^ b : Nat) : Int) ≤ ((2 ^ ((b / k + 1) * k) : Nat) : Int) := Int.ofNat_le.mpr h3
    rw [Int.natCast_pow, Int.natCast_pow] at h4
    have h5 : ((n.natAbs : Nat) : Int) < ((2 ^ b : Nat) : Int) := Int.ofNat_lt.mpr hb
    rw [Int.natCast_pow] at h5
    have e2 : ((2 : Nat) : Int) = 2 := rfl
    rw [e2] at h4 h5
    omega
theorem small_root {n s : Int} {k : Nat} (hs : 0 ≤ s) (hk : 1 ≤ k) (h : s ^ k ≤ n) : s ≤ n := by
  have h1 := le_npow s.natAbs hk
  have h2 : (s ^ k).natAbs = s.natAbs ^ k := Int.natAbs_pow s k
  have h3 : 0 ≤ s ^ k := Int.pow_nonneg hs
  omega
theorem pow01 {n : Int} (h0 : 0 ≤ n) (h2 : n < 2) {k : Nat} (hk : 1 ≤ k) : n ^ k ≤ n := by
  obtain ⟨j, rfl⟩ : ∃ j, k = j + 1 := ⟨k - 1, by omega⟩
  have e : n = 0 ∨ n = 1 := by omega
  rcases e with rfl | rfl
  · rw [Int.pow_succ, Int.mul_zero]
    exact Int.le_refl _
  · rw [Int.one_pow]
    exact Int.le_refl _
/-- the scale between two pairs -/
def U (c4 c6 e4 e6 : Int) (u : Rat) : Prop := 0 < u ∧ u ^ 4 * (e4 : Rat) = (c4 : Rat) ∧ u ^ 6 * (e6 : Rat) = (c6 : Rat)
theorem cz {a : Int} : (a : Rat) = 0 ↔ a = 0 := by
  constructor
  · intro h
    exact_mod_cast h
  · rintro rfl
    rfl
theorem pp {u : Rat} (h : 0 < u) (k : Nat) : u ^ k ≠ 0 := fun e => by
  have h1 := Rat.pow_pos (n := k) h
  rw [e] at h1
  exact absurd h1 (by decide)
theorem U.z4 {c4 c6 e4 e6 : Int} {u : Rat} (h : U c4 c6 e4 e6 u) : c4 = 0 ↔ e4 = 0 := by
  obtain ⟨h0, h1, h2⟩ := h
  have := pp h0 4
  rw [← cz, ← cz (a := e4), ← h1]
  grind
theorem U.z6 {c4 c6 e4 e6 : Int} {u : Rat} (h : U c4 c6 e4 e6 u) : c6 = 0 ↔ e6 = 0 := by
  obtain ⟨h0, h1, h2⟩ := h
  have := pp h0 6
  rw [← cz, ← cz (a := e6), ← h2]
  grind
theorem U.uniq {c4 c6 e4 e6 : Int} {u v : Rat} (z : e4 ≠ 0 ∨ e6 ≠ 0) (h : U c4 c6 e4 e6 u) (k : U c4 c6 e4 e6 v) : u = v := by
  obtain ⟨h0, h1, h2⟩ := h
  obtain ⟨k0, k1, k2⟩ := k
  rcases z with z | z
  · have z' : (e4 : Rat) ≠ 0 := fun e => z (cz.mp e)
    exact qpow_inj (k := 4) (by decide) h0 k0 (by grind)
  · have z' : (e6 : Rat) ≠ 0 := fun e => z (cz.mp e)
    exact qpow_inj (k := 6) (by decide) h0 k0 (by grind)
theorem U.p4 {c4 c6 e4 e6 : Int} {u : Rat} (z : e4 ≠ 0) (h : U c4 c6 e4 e6 u) : u ^ 4 = Rat.divInt c4 e4 := by
  obtain ⟨h0, h1, h2⟩ := h
  have z' : (e4 : Rat) ≠ 0 := fun e => z (cz.mp e)
  rw [Rat.divInt_eq_div]
  grind
theorem U.p6 {c4 c6 e4 e6 : Int} {u : Rat} (z : e6 ≠ 0) (h : U c4 c6 e4 e6 u) : u ^ 6 = Rat.divInt c6 e6 := by
  obtain ⟨h0, h1, h2⟩ := h
  have z' : (e6 : Rat) ≠ 0 := fun e => z (cz.mp e)
  rw [Rat.divInt_eq_div]
  grind
theorem U.p2 {c4 c6 e4 e6 : Int} {u : Rat} (z4 : c4 ≠ 0) (z6 : e6 ≠ 0) (h : U c4 c6 e4 e6 u) : u ^ 2 = Rat.divInt (c6 * e4) (e6 * c4) := by
  obtain ⟨h0, h1, h2⟩ := h
  have z6' : (e6 : Rat) ≠ 0 := fun e => z6 (cz.mp e)
  have z4' : (c4 : Rat) ≠ 0 := fun e => z4 (cz.mp e)
  have := pp h0 4
  rw [Rat.divInt_eq_div, Rat.intCast_mul, Rat.intCast_mul]
  have e : (c6 : Rat) * e4 = u ^ 2 * (e6 * c4) := by
    rw [← h1, ← h2]
    grind
  grind
theorem U.of4 {c4 e4 : Int} {u : Rat} (z : e4 ≠ 0) (h0 : 0 < u) (h : u ^ 4 = Rat.divInt c4 e4) : U c4 0 e4 0 u := by
  have z' : (e4 : Rat) ≠ 0 := fun e => z (cz.mp e)
  rw [Rat.divInt_eq_div] at h
  refine ⟨h0, by grind, by grind⟩
theorem U.of6 {c6 e6 : Int} {u : Rat} (z : e6 ≠ 0) (h0 : 0 < u) (h : u ^ 6 = Rat.divInt c6 e6) : U 0 c6 0 e6 u := by
  have z' : (e6 : Rat) ≠ 0 := fun e => z (cz.mp e)
  rw [Rat.divInt_eq_div] at h
  refine ⟨h0, by grind, by grind⟩
theorem U.of2 {c4 c6 e4 e6 : Int} {u : Rat} (z4 : c4 ≠ 0) (y4 : e4 ≠ 0) (z6 : e6 ≠ 0) (h0 : 0 < u) (h : u ^ 2 = Rat.divInt (c6 * e4) (e6 * c4)) : U c4 c6 e4 e6 u ↔ (u.num * u.num) * (u.num * u.num) * e4 = (u.den * u.den) * (u.den * u.den) * c4 := by
  have z6' : (e6 : Rat) ≠ 0 := fun e => z6 (cz.mp e)
  have z4' : (c4 : Rat) ≠ 0 := fun e => z4 (cz.mp e)
  have y4' : (e4 : Rat) ≠ 0 := fun e => y4 (cz.mp e)
  have hd := denR u
  have hu := as_div u
  rw [Rat.divInt_eq_div, Rat.intCast_mul, Rat.intCast_mul] at h
  have k : u ^ 4 * (e4 : Rat) = c4 ↔ (u.num * u.num) * (u.num * u.num) * e4 = ((u.den : Int) * u.den) * (u.den * u.den) * c4 := by
    rw [← Rat.intCast_inj]
    simp only [Rat.intCast_mul]
    constructor
    · intro e
      grind
    · intro e
      grind
  constructor
  · rintro ⟨_, h1, _⟩
    exact k.mp h1
  · intro e
    have h1 := k.mpr e
    refine ⟨h0, h1, ?_⟩
    have h3 : u ^ 6 = u ^ 4 * u ^ 2 := by grind
    have h5 : (e6 : Rat) * c4 ≠ 0 := fun e => by
      rcases Rat.mul_eq_zero.mp e with e | e
      · exact z6' e
      · exact z4' e
    have h6 : u ^ 2 * ((e6 : Rat) * c4) = c6 * e4 := by
      rw [h]
      grind
    have h7 : u ^ 6 * e6 * c4 = c6 * c4 := by
      rw [h3]
      have : u ^ 4 * u ^ 2 * e6 * c4 = u ^ 4 * (u ^ 2 * (e6 * c4)) := by grind
      rw [this, h6, ← h1]
      grind
    grind
theorem div_ne {n d : Int} (h : n ≠ 0) (k : d ≠ 0) : Rat.divInt n d ≠ 0 := fun e => by
  have hn : (n : Rat) ≠ 0 := fun e => h (cz.mp e)
  have hd : (d : Rat) ≠ 0 := fun e => k (cz.mp e)
  rw [Rat.divInt_eq_div] at e
  grind
theorem qpos {u : Rat} (h : 0 < u) (k : Nat) : 0 < u ^ k := Rat.pow_pos h
theorem U.pos6 {c4 c6 e4 e6 : Int} {u : Rat} (z : e6 ≠ 0) (h : U c4 c6 e4 e6 u) : 0 < (Rat.divInt c6 e6).num := by
  rw [← U.p6 z h]
  exact num_pos (qpos h.1 6)
theorem U.pos4 {c4 c6 e4 e6 : Int} {u : Rat} (z : e4 ≠ 0) (h : U c4 c6 e4 e6 u) : 0 < c4 * e4 := by
  have h1 : 0 < (Rat.divInt c4 e4).num := by
    rw [← U.p4 z h]
    exact num_pos (qpos h.1 4)
  rw [Rat.num_divInt] at h1
  have h2 : 0 < e4.sign * c4 := by
    have hg : (0 : Int) < ((Int.gcd e4 c4 : Nat) : Int) := by
      have := Int.gcd_pos_of_ne_zero_left c4 z
      omega
    have h3 := (Int.le_ediv_iff_mul_le (a := 1) (b := e4.sign * c4) hg).mp (by omega)
    omega
  rcases Int.lt_trichotomy e4 0 with y | y | y
  · rw [Int.sign_eq_neg_one_of_neg y] at h2
    exact Int.mul_pos_of_neg_of_neg (by omega) y
  · exact absurd y z
  · rw [Int.sign_eq_one_of_pos y] at h2
    exact Int.mul_pos (by omega) y
theorem U.sq4 {c4 c6 e4 e6 : Int} {u r : Rat} (z : e4 ≠ 0) (h : U c4 c6 e4 e6 u) (r0 : 0 < r) (re : r ^ 2 = Rat.divInt c4 e4) : u ^ 2 = r := by
  refine qpow_inj (k := 2) (by decide) (qpos h.1 2) r0 ?_
  rw [re, ← U.p4 z h]
  grind
theorem U.sq4' {c4 c6 e4 e6 : Int} {u : Rat} (z : e4 ≠ 0) (h : U c4 c6 e4 e6 u) : (u ^ 2) ^ 2 = Rat.divInt c4 e4 := by
  rw [← U.p4 z h]
  grind
theorem U.cb6 {c4 c6 e4 e6 : Int} {u r : Rat} (z : e6 ≠ 0) (h : U c4 c6 e4 e6 u) (r0 : 0 < r) (re : r ^ 3 = Rat.divInt c6 e6) : u ^ 2 = r := by
  refine qpow_inj (k := 3) (by decide) (qpos h.1 2) r0 ?_
  rw [re, ← U.p6 z h]
  grind
theorem U.cb6' {c4 c6 e4 e6 : Int} {u : Rat} (z : e6 ≠ 0) (h : U c4 c6 e4 e6 u) : (u ^ 2) ^ 3 = Rat.divInt c6 e6 := by
  rw [← U.p6 z h]
  grind
theorem U.iff {c4 c6 e4 e6 : Int} {u : Rat} (h : 0 < u) : U c4 c6 e4 e6 u ↔ (e6 : Rat) * u ^ 6 = (c6 : Rat) ∧ (e4 : Rat) * u ^ 4 = (c4 : Rat) := by
  unfold U
  constructor
  · rintro ⟨_, h1, h2⟩
    exact ⟨by grind, by grind⟩
  · rintro ⟨h1, h2⟩
    exact ⟨h, by grind, by grind⟩
end QM
set_option Elab.async false
set_option linter.all false
set_option maxRecDepth 100000
namespace L2
open PySem PySem.Spec PyProof.Rows
section
variable {X : Cx}
def rIsqrt : List V → Hp → VK → Prop := fun vs H Q => ∃ a : Int, vs = [.int a] ∧ 0 ≤ a ∧ a.natAbs < 2 ^ 4000 ∧ Q (.int ((Float64.isqrt a.toNat : Nat) : Int)) H
theorem isq_int1 {i : Int} {us : List Value} (r : Vals [V.int i] us) : ∃ t, us = [Value.int i t] := by
  obtain ⟨t, u, h⟩ := Vals.int2 (i := i) (j := i) (us := us ++ us) (by
    cases r with
    | cons a b => cases b; exact .cons a (.cons a .nil))
  match us, h with
  | [_], h => exact ⟨t, by simp at h; rw [h.1]⟩
  | [], h => simp at h
  | _ :: _ :: _, h => simp at h
theorem cr_isqrt : CallR X (.builtin "math.isqrt") rIsqrt := by
  intro pins s σ H vs us Q I r h
  obtain ⟨a, rfl, h0, h1, q⟩ := h
  obtain ⟨t, rfl⟩ := isq_int1 r
  have hl : a.toNat.log2 ≤ 3999 := PySem.W.mg_log (k := 3999) (by rw [show a.toNat = a.natAbs by omega]; exact h1)
  exact call_function_meets PySem.W.MGF.kind_isqrt PySem.W.MGF.plain_isqrt PySem.W.MGF.entry_isqrt (PySem.W.MGF.args_isqrt _) (PySem.W.mg_run_isqrt a t (by omega) (by omega) (by omega)).meets ⟨.int _, H, I.tok _, ⟨_, rfl⟩, q⟩
end
end L2
namespace QM
/-- the whole root of a number -/
theorem isqrt_is {n : Int} (h : 0 ≤ n) : ((PySem.Float64.isqrt n.toNat : Nat) : Int) * ((PySem.Float64.isqrt n.toNat : Nat) : Int) ≤ n ∧ ∀ s : Int, 0 ≤ s → s * s ≤ n → s ≤ ((PySem.Float64.isqrt n.toNat : Nat) : Int) := by
  obtain ⟨a, b⟩ := PySem.Float64.isqrt_spec n.toNat
  generalize PySem.Float64.isqrt n.toNat = q at a b
  have e : ((n.toNat : Nat) : Int) = n := Int.toNat_of_nonneg h
  have a' : (q : Int) * q ≤ n := by rw [← e]; exact_mod_cast a
  have b' : n < ((q : Int) + 1) * (q + 1) := by rw [← e]; exact_mod_cast b
  refine ⟨a', fun s hs h1 => ?_⟩
  rcases (show (q : Int) < s ∨ s ≤ q by omega) with z | z
  · exfalso
    have := Int.mul_le_mul (show (q : Int) + 1 ≤ s by omega) (show (q : Int) + 1 ≤ s by omega) (by omega) hs
    omega
  · exact z
end QM
set_option Elab.async false
set_option linter.all false
set_option maxRecDepth 100000
/-! fractions as pairs of ints; promises of the sums -/
namespace Gd
open PySem PySem.Spec PyProof.Rows L2 QM
/-- // by any divisor but 0, below 2 ^ 9000 -/
def CDivAny (_ j : Int) : Prop := j ≠ 0 ∧ j.natAbs.log2 < 9000
theorem op_fdivAny {X : Cx} : OpR X (binaryOp .FloorDiv) (rI CDivAny fun i j => .int (i.fdiv j)) := opI fun _ _ _ _ _ _ _ hc q => floordiv_int hc.1 q (.inl (PyProof.noPylong_of_log2 hc.2))
theorem B.log9 {n : Nat} {x : Int} (hx : B n x) (h : n ≤ 8900) : x.natAbs.log2 < 9000 := by
  have h1 : x.natAbs < 2 ^ 8901 := hx.up (by omega)
  exact PySem.Flt.log2_lt_of (by decide) (Nat.lt_of_lt_of_le h1 (Nat.pow_le_pow_right (by decide) (by decide)))
theorem div_any {m : Nat} {i j : Int} (h : j ≠ 0) (hb : B m j) (hm : m ≤ 8900) : CDivAny i j := ⟨h, hb.log9 hm⟩
theorem gcd_B {m : Nat} {n d : Int} (h : d ≠ 0) (hb : B m d) : B m ((Nat.gcd n.natAbs d.natAbs : Nat) : Int) := by
  unfold B at *
  have h1 : Nat.gcd n.natAbs d.natAbs ≤ d.natAbs := Nat.gcd_le_right _ (by omega)
  omega
theorem sg_B {m : Nat} {n d : Int} (h : d ≠ 0) (hb : B m d) : B m (sg n d) := by
  unfold sg
  split
  · exact (gcd_B h hb).neg
  · exact gcd_B h hb
/-- a fraction's pair -/
def fq (q : Rat) : List V := [.int q.num, .int (q.den : Int)]
theorem fq_div {n d : Int} (h : d ≠ 0) : [V.int (n.fdiv (sg n d)), V.int (d.fdiv (sg n d))] = fq (Rat.divInt n d) := by
  unfold fq
  rw [fr_num h, fr_den h]
theorem fq_int (n : Int) : fq (n : Rat) = [.int n, .int 1] := by
  unfold fq
  rw [Rat.num_intCast, Rat.den_intCast]
  rfl
theorem fq_inj {a b : Rat} (h : fq a = fq b) : a = b := by
  unfold fq at h
  simp only [List.cons.injEq, V.int.injEq, and_true] at h
  exact Rat.ext h.1 (by omega)
def dq (q : Rat) : PyData := .tuple [.int q.num, .int (q.den : Int)]
theorem dp_q {K : PySem.W.Frag} {H : Hp} {p : Addr} {q : Rat} (h : SqT K H p (fq q)) : Dp K H (.ref p) (dq q) := .tup h (.cons (.int _) (.cons (.int _) .nil))
theorem dq_inj {a b : Rat} : dq a = dq b ↔ a = b := by
  constructor
  · intro h
    unfold dq at h
    simp only [PyData.tuple.injEq, List.cons.injEq, PyData.int.injEq, and_true] at h
    exact Rat.ext h.1 (by omega)
  · rintro rfl
    rfl
theorem _root_.QM.RB.n {m : Nat} {q : Rat} (h : RB m q) : B m q.num := h.1
theorem _root_.QM.RB.d {m : Nat} {q : Rat} (h : RB m q) : B m (q.den : Int) := h.2
theorem okq {m : Nat} {q : Rat} (h : RB m q) (k : m ≤ 1900) : okD (dq q) = true := by
  have h1 := B.log (RB.n h) k
  have h2 := B.log (RB.d h) k
  unfold dq
  rw [okD, okAll, okAll, okAll, okD, okD]
  rw [decide_eq_true h1, decide_eq_true h2]
  rfl
def spCut (K : PySem.W.Frag) : Sp := fun vs H Q _ => ∃ n d : Int, vs = [.int n, .int d] ∧ d ≠ 0 ∧ B 6200 n ∧ B 6200 d ∧ ∀ t, H t = none → Q (.ref t) (upd H t (.tup (fq (Rat.divInt n d))))
def spBin (ok : Rat → Rat → Prop) (op : Rat → Rat → Rat) (K : PySem.W.Frag) : Sp := fun vs H Q _ => ∃ (f g : Addr) (a b : Rat), vs = [.ref f, .ref g] ∧ SqT K H f (fq a) ∧ SqT K H g (fq b) ∧ RB 3000 a ∧ RB 3000 b ∧ ok a b ∧ ∀ t, H t = none → Q (.ref t) (upd H t (.tup (fq (op a b))))
/-- a list of fractions -/
def FrL (K : PySem.W.Frag) (H : Hp) (m : Nat) (ps : List (Addr × Rat)) : Prop := ∀ p ∈ ps, SqT K H p.1 (fq p.2) ∧ RB m p.2
def spSum (op : Rat → Rat → Rat) (e : Rat) (K : PySem.W.Frag) : Sp := fun vs H Q _ => ∃ (l : Addr) (ps : List (Addr × Rat)) (m : Nat), vs = [.ref l] ∧ SqL K H l (ps.map fun p => .ref p.1) ∧ FrL K H m ps ∧ ps.length * (m + 1) ≤ 2900 ∧ ∀ H' t, Same H H' → H t = none → H' t = some (.tup (fq (ps.foldl (fun x p => op x p.2) e))) → RB (ps.length * (m + 1) + 1) (ps.foldl (fun x p => op x p.2) e) → Q (.ref t) H'
/-- a list that is being made of the fractions of ints -/
def FrD (H : Hp) (D : Addr) (ns : List Int) (i : Nat) : Prop := ∃ L : List Addr, H D = some (.lst (L.map V.ref)) ∧ L.length = i ∧ ∀ (j : Nat) (p : Addr), L[j]? = some p → ∃ n : Int, ns[j]? = some n ∧ H p = some (.tup (fq (n : Rat)))
theorem FrD.new {H : Hp} {D : Addr} {ns : List Int} : FrD (upd H D (.lst [])) D ns 0 := ⟨[], upd_same, rfl, fun j p h => by simp at h⟩
theorem FrD.push {H : Hp} {D t : Addr} {ns : List Int} {i : Nat} {n : Int} (h : FrD H D ns i) (hi : ns[i]? = some n) (nt : H t = none) (hl : i < 1000) :
    ∃ acc, (upd H t (.tup (fq (n : Rat)))) D = some (.lst acc) ∧ acc.length < sizeLine ∧ FrD (upd (upd H t (.tup (fq (n : Rat)))) D (.lst (acc ++ [.ref t]))) D ns (i + 1) := by
  obtain ⟨L, h1, h2, h3⟩ := h
  have hDt : D ≠ t := ne_of_none h1 nt
  refine ⟨L.map V.ref, by rw [upd_ne hDt]; exact h1, by rw [List.length_map]; exact small1000 (by omega), L ++ [t], ?_, by rw [List.length_append, h2]; rfl, fun j p hj => ?_⟩
  · rw [upd_same, List.map_append]
    rfl
  · rcases Nat.lt_or_ge j L.length with z | z
    · rw [List.getElem?_append_left z] at hj
      obtain ⟨m, hm, hp⟩ := h3 j p hj
      refine ⟨m, hm, ?_⟩
      have hpD : p ≠ D := ne_of hp h1 (by intro z; cases z)
      rw [upd_ne hpD, upd_ne (ne_of_none hp nt)]
      exact hp
    · rw [List.getElem?_append_right z] at hj
      have e : j - L.length = 0 := by
        rcases Nat.eq_zero_or_pos (j - L.length) with q | q
        · exact q
        · rw [List.getElem?_eq_none (by simp; omega)] at hj
          cases hj
      rw [e] at hj
      obtain rfl := Option.some.inj hj
      have ej : j = i := by omega
      refine ⟨n, by rw [ej]; exact hi, ?_⟩
      rw [upd_ne (fun q => hDt q.symm), upd_same]
theorem FrD.five {H : Hp} {D : Addr} {a b c d e : Int} (h : FrD H D [a, b, c, d, e] 5) : ∃ p1 p2 p3 p4 p5, H D = some (.lst [.ref p1, .ref p2, .ref p3, .ref p4, .ref p5]) ∧ H p1 = some (.tup (fq (a : Rat))) ∧ H p2 = some (.tup (fq (b : Rat))) ∧ H p3 = some (.tup (fq (c : Rat))) ∧ H p4 = some (.tup (fq (d : Rat))) ∧ H p5 = some (.tup (fq (e : Rat))) := by
  obtain ⟨L, h1, h2, h3⟩ := h
  match L, h2 with
  | [p1, p2, p3, p4, p5], _ =>
    have g : ∀ (j : Nat) (p : Addr) (n : Int), [p1, p2, p3, p4, p5][j]? = some p → [a, b, c, d, e][j]? = some n → H p = some (.tup (fq (n : Rat))) := fun j p n x y => by
      obtain ⟨m, hm, hp⟩ := h3 j p x
      rw [y] at hm
      obtain rfl := Option.some.inj hm
      exact hp
    exact ⟨p1, p2, p3, p4, p5, h1, g 0 _ _ rfl rfl, g 1 _ _ rfl rfl, g 2 _ _ rfl rfl, g 3 _ _ rfl rfl, g 4 _ _ rfl rfl⟩
/-! what stands of fractions in the heap -/
def FrE (K : PySem.W.Frag) (H : Hp) (es : List (Addr × Rat × Nat)) : Prop := ∀ x ∈ es, SqT K H x.1 (fq x.2.1) ∧ RB x.2.2 x.2.1
section
variable {K : PySem.W.Frag} {H H' : Hp} {es : List (Addr × Rat × Nat)} {p r : Addr} {a b : Rat} {m n : Nat} {Q : VK} {Z : XK}
theorem FrE.nil : FrE K H [] := fun x h => by cases h
theorem FrE.same (h : FrE K H es) (s : Same H H') : FrE K H' es := fun x k => ⟨Same.tup s (h x k).1, (h x k).2⟩
theorem FrE.get (h : FrE K H es) (k : (p, a, m) ∈ es) : SqT K H p (fq a) := (h _ k).1
theorem FrE.rb (h : FrE K H es) (k : (p, a, m) ∈ es) : RB m a := (h _ k).2
theorem FrE.add (h : FrE K H es) (k : SqT K H p (fq a)) (b : RB m a) : FrE K H ((p, a, m) :: es) := fun x z => by
  rcases List.mem_cons.mp z with rfl | z
  · exact ⟨k, b⟩
  · exact h x z
theorem FrE.re (h : FrE K H ((p, a, m) :: es)) (e : a = b) (k : RB n b) : FrE K H ((p, b, n) :: es) := fun x z => by
  subst e
  rcases List.mem_cons.mp z with rfl | z
  · exact ⟨(h _ List.mem_cons_self).1, k⟩
  · exact h x (List.mem_cons_of_mem _ z)
theorem FrE.sub {fs : List (Addr × Rat × Nat)} (h : FrE K H es) (k : ∀ x ∈ fs, x ∈ es) : FrE K H fs := fun x z => h x (k x z)
theorem stepE (E : FrE K H es) {t : Addr} (n : H t = none) {c : Rat} {k : Nat} (hb : RB k c) : ∃ H', upd H t (.tup (fq c)) = H' ∧ Same H H' ∧ FrE K H' ((t, c, k) :: es) :=
  ⟨_, rfl, Same.new n, (E.same (Same.new n)).add (tup_of upd_same) hb⟩
theorem litE (E : FrE K H es) {t : Addr} (n : H t = none) {vs : List V} {c : Rat} {k : Nat} (e : vs = fq c) (hb : RB k c) : ∃ H', upd H t (.tup vs) = H' ∧ Same H H' ∧ FrE K H' ((t, c, k) :: es) := by
  subst e
  exact stepE E n hb
theorem FrL.nil {M : Nat} : FrL K H M [] := fun x h => by cases h
theorem FrL.cons {M : Nat} {ps : List (Addr × Rat)} (E : FrE K H es) (k : (p, a, m) ∈ es) (hm : m ≤ M) (h : FrL K H M ps) : FrL K H M ((p, a) :: ps) := fun x z => by
  rcases List.mem_cons.mp z with rfl | z
  · exact ⟨E.get k, (E.rb k).up hm⟩
  · exact h x z
end
mutual
theorem dp_same {K : PySem.W.Frag} {H H' : Hp} (s : Same H H') : ∀ (d : PyData) (v : V), Dp K H v d → Dp K H' v d
  | .none, _, h => by
    cases h
    exact .non
  | .bool _, _, h => by
    cases h
    exact .bl _
  | .int _, _, h => by
    cases h
    exact .int _
  | .str _, _, h => by
    cases h
    exact .str _
  | .list ds, _, h => by
    cases h with
    | lst h1 h2 => exact .lst (s.seq h1) (dp_sameAll s ds _ h2)
  | .tuple ds, _, h => by
    cases h with
    | tup h1 h2 => exact .tup (Same.tup s h1) (dp_sameAll s ds _ h2)
  | .dict _, _, h => by cases h
theorem dp_sameAll {K : PySem.W.Frag} {H H' : Hp} (s : Same H H') : ∀ (ds : List PyData) (vs : List V), DpAll K H vs ds → DpAll K H' vs ds
  | [], _, h => by
    cases h
    exact .nil
  | d :: ds, _, h => by
    cases h with
    | cons h1 h2 => exact .cons (dp_same s d _ h1) (dp_sameAll s ds _ h2)
end
/-- a list's cell is no tuple's -/
theorem tup_put {K : PySem.W.Frag} {H : Hp} {D p : Addr} {L xs : List V} {o : HO} (hD : H D = some (.lst L)) (e : SqT K H p xs) : SqT K (upd H D o) p xs := by
  rcases e with (e | ⟨z, e⟩) | e
  · refine Or.inl (Or.inl ?_)
    rw [upd_ne (ne_of e hD (by intro z; cases z))]
    exact e
  · refine Or.inl (Or.inr ⟨z, ?_⟩)
    rw [upd_ne (ne_of e hD (by intro z; cases z))]
    exact e
  · exact Or.inr e
mutual
def noL : PyData → Bool
  | .list _ => false
  | .tuple ds => noLAll ds
  | .dict _ => false
  | _ => true
def noLAll : List PyData → Bool
  | [] => true
  | d :: ds => noL d && noLAll ds
end
mutual
theorem dp_put {K : PySem.W.Frag} {H : Hp} {D : Addr} {L : List V} {o : HO} (hD : H D = some (.lst L)) : ∀ (d : PyData) (v : V), noL d = true → Dp K H v d → Dp K (upd H D o) v d
  | .none, _, _, h => by
    cases h
    exact .non
  | .bool _, _, _, h => by
    cases h
    exact .bl _
  | .int _, _, _, h => by
    cases h
    exact .int _
  | .str _, _, _, h => by
    cases h
    exact .str _
  | .list ds, _, n, h => by
    rw [noL] at n
    cases n
  | .tuple ds, _, n, h => by
    rw [noL] at n
    cases h with
    | tup h1 h2 => exact .tup (tup_put hD h1) (dp_putAll hD ds _ n h2)
  | .dict _, _, _, h => by cases h
theorem dp_putAll {K : PySem.W.Frag} {H : Hp} {D : Addr} {L : List V} {o : HO} (hD : H D = some (.lst L)) : ∀ (ds : List PyData) (vs : List V), noLAll ds = true → DpAll K H vs ds → DpAll K (upd H D o) vs ds
  | [], _, _, h => by
    cases h
    exact .nil
  | d :: ds, _, n, h => by
    rw [noLAll, Bool.and_eq_true] at n
    cases h with
    | cons h1 h2 => exact .cons (dp_put hD d _ n.1 h1) (dp_putAll hD ds _ n.2 h2)
end
end Gd
set_option Elab.async false
set_option linter.all false
set_option maxRecDepth 100000
set_option maxHeartbeats 4000000
namespace K07
open PySem PySem.Spec PyProof.Rows L2 Gd QM
def topS (i : Nat) : Stmt := PySem.Challenge.pw_pointsum_k07_whole_alike_curves.main.body.getD i (.Pass ⟨0, 0, 0, 0⟩)
/-- what the walk asks of the module's names -/
structure Tx (K : PySem.W.Frag) (mg : Str → Option Value) : Prop where
  gcd : mg "gcd" = some (.builtin "math.gcd")
  isqrt : mg "isqrt" = some (.builtin "math.isqrt")
  int : mg "int" = none
  len : mg "len" = none
  tuple : mg "tuple" = none
  max : mg "max" = none
  min : mg "min" = none
  abs : mg "abs" = none
  range : mg "range" = none
  repr : mg "repr" = none
theorem iteN {c A B : Prop} [Decidable c] (h : ¬ c) (b : B) : if c then A else B := by
  rw [if_neg h]
  exact b
theorem iteY {c A B : Prop} [Decidable c] (h : c) (b : A) : if c then A else B := by
  rw [if_pos h]
  exact b
/-- the five numbers of a curve -/
structure Cv where
  a1 : Int
  a2 : Int
  a3 : Int
  a4 : Int
  a6 : Int
namespace Cv
variable (c : Cv)
def tup : List V := [.int c.a1, .int c.a2, .int c.a3, .int c.a4, .int c.a6]
def b2 : Int := c.a1 * c.a1 + 4 * c.a2
def b4 : Int := 2 * c.a4 + c.a1 * c.a3
def b6 : Int := c.a3 * c.a3 + 4 * c.a6
def b8 : Int := c.a1 * c.a1 * c.a6 + 4 * c.a2 * c.a6 - c.a1 * c.a3 * c.a4 + c.a2 * c.a3 * c.a3 - c.a4 * c.a4
def c4 : Int := c.b2 * c.b2 - 24 * c.b4
def c6 : Int := 36 * c.b2 * c.b4 - c.b2 * c.b2 * c.b2 - 216 * c.b6
def disc : Int := 9 * c.b2 * c.b4 * c.b6 - c.b2 * c.b2 * c.b8 - 8 * c.b4 * c.b4 * c.b4 - 27 * c.b6 * c.b6
def nums : List V := [.int c.b2, .int c.b4, .int c.b6, .int c.b8, .int c.c4, .int c.c6, .int c.disc]
/-- small numbers: two more than a curve that is passed -/
structure Sm : Prop where
  h1 : B 12 c.a1
  h2 : B 12 c.a2
  h3 : B 12 c.a3
  h4 : B 32 c.a4
  h6 : B 32 c.a6
end Cv
local macro_rules | `(tactic| walk_at "bd") => `(tactic| (repeat (first | assumption | apply B.add | apply B.sub | apply B.mul | apply B.neg | exact B.lit (n := 8) (by decide))))
local macro_rules | `(tactic| walk_at "bu") => `(tactic| (apply B.up; walk_at "bd"; decide))
local macro_rules | `(tactic| walk_at "bnd") => `(tactic| (apply B.mulW; walk_at "bd"; decide))
theorem Cv.Sm.b2 {c : Cv} (h : c.Sm) : B 25 c.b2 := by
  obtain ⟨h1, h2, h3, h4, h6⟩ := h
  unfold Cv.b2
  walk_at "bu"
theorem Cv.Sm.b4 {c : Cv} (h : c.Sm) : B 41 c.b4 := by
  obtain ⟨h1, h2, h3, h4, h6⟩ := h
  unfold Cv.b4
  walk_at "bu"
theorem Cv.Sm.b6 {c : Cv} (h : c.Sm) : B 41 c.b6 := by
  obtain ⟨h1, h2, h3, h4, h6⟩ := h
  unfold Cv.b6
  walk_at "bu"
theorem Cv.Sm.b8 {c : Cv} (h : c.Sm) : B 70 c.b8 := by
  obtain ⟨h1, h2, h3, h4, h6⟩ := h
  unfold Cv.b8
  walk_at "bu"
theorem Cv.Sm.c4 {c : Cv} (h : c.Sm) : B 58 c.c4 := by
  have e2 := h.b2
  have e4 := h.b4
  unfold Cv.c4
  walk_at "bu"
theorem Cv.Sm.c6 {c : Cv} (h : c.Sm) : B 80 c.c6 := by
  have e2 := h.b2
  have e4 := h.b4
  have e6 := h.b6
  unfold Cv.c6
  walk_at "bu"
section
variable {P : Program} {w : World} {K : PySem.W.Frag} {mg : Str → Option Value} {base : Heap}
/-! ### five -/
def sp_five (K : PySem.W.Frag) : Sp := fun vs H Q _ => ∃ (p : Addr) (c : Cv), vs = [.ref p] ∧ SqT K H p c.tup ∧ Q (.ref p) H
abbrev s_five : Stmt := topS 7
theorem sc_five : FnScope ["curve", "a", "b", "c"] ["curve"] (defScope s_five) := ⟨rfl, rfl, rfl, by decide +kernel, rfl, by decide +kernel, by decide +kernel⟩
theorem k_five (T : Tx K mg) (D : Df K mg "five" s_five ["curve"])  : Kl P w K mg base 1 "five" (sp_five K) := by
  have nd := sc_five.nd
  refine Kl.by_body D sc_five (fun vs H Q E h => ?_) (fun f cdv A outer s H vs Q E hr h => ?_)
  · obtain ⟨_, _, rfl, _⟩ := h
    rfl
  · obtain ⟨p, c, rfl, hx, q⟩ := h
    have hu1 := hu_of hr
    refine ⟨_, (pss_cons (ps_if (pt_cmpR op_eq (pe_callB call_len_seq (by rfl) T.len (by decide +kernel) (pa_cons (pv 0) pa_nil)) pe_int (nomark _)) (pss_cons (ps_asg (pv 0) (pg_tup rfl (pgs_cons (pg_name (i := 1) nd rfl (by first | exact Or.inl rfl | exact Or.inr rfl)) (pgs_cons (pg_name (i := 2) nd rfl (by first | exact Or.inl rfl | exact Or.inr rfl)) (pgs_cons (pg_name (i := 3) nd rfl (by first | exact Or.inl rfl | exact Or.inr rfl)) pgs_nil)))))
      (pss_one (ps_ret (pe_tup (pa_cons pe_int (pa_cons (pv 1) (pa_cons pe_int (pa_cons (pv 2) (pa_cons (pv 3) pa_nil))))))))) pss_nil)
      (pss_one (ps_ret (pv 0)))), ?_⟩
    refine ⟨.ref p, rfl, p, _, rfl, .inr hx, rfl, _, rfl, ?_⟩
    refine iteN (by simp [Cv.tup]) ?_
    exact ⟨.ref p, rfl, q⟩
/-! ### numbers_of -/
def sp_numbers_of (K : PySem.W.Frag) : Sp := fun vs H Q _ => ∃ (p : Addr) (c : Cv), vs = [.ref p] ∧ SqT K H p c.tup ∧ c.Sm ∧ ∀ t, H t = none → Q (.ref t) (upd H t (.tup c.nums))
abbrev s_numbers_of : Stmt := topS 8
theorem sc_numbers_of : FnScope ["curve", "a1", "a2", "a3", "a4", "a6", "b2", "b4", "b6", "b8", "c4", "c6", "d"] ["curve"] (defScope s_numbers_of) := ⟨rfl, rfl, rfl, by decide +kernel, rfl, by decide +kernel, by decide +kernel⟩
theorem k_numbers_of (T : Tx K mg) (D : Df K mg "numbers_of" s_numbers_of ["curve"]) (c_five : Kl P w K mg base 1 "five" (sp_five K)) : Kl P w K mg base 2 "numbers_of" (sp_numbers_of K) := by
  have nd := sc_numbers_of.nd
  refine Kl.by_body D sc_numbers_of (fun vs H Q E h => ?_) (fun f cdv A outer s H vs Q E hr h => ?_)
  · obtain ⟨_, _, rfl, _⟩ := h
    rfl
  · obtain ⟨p, c, rfl, hx, hm, q⟩ := h
    have hu1 := hu_of hr
    refine ⟨_, (pss_cons (ps_asg (pe_k c_five  hr (by decide) (by rfl) (pa_cons (pv 0) pa_nil)) (pg_tup rfl (pgs_cons (pg_name (i := 1) nd rfl (by first | exact Or.inl rfl | exact Or.inr rfl)) (pgs_cons (pg_name (i := 2) nd rfl (by first | exact Or.inl rfl | exact Or.inr rfl)) (pgs_cons (pg_name (i := 3) nd rfl (by first | exact Or.inl rfl | exact Or.inr rfl)) (pgs_cons (pg_name (i := 4) nd rfl (by first | exact Or.inl rfl | exact Or.inr rfl)) (pgs_cons (pg_name (i := 5) nd rfl (by first | exact Or.inl rfl | exact Or.inr rfl)) pgs_nil)))))))
      (pss_cons (ps_set (i := 6) nd rfl (by first | exact Or.inl rfl | exact Or.inr rfl) (pe_op op_add (pe_op op_mulW (pv 1) (pv 1)) (pe_op op_mul pe_int (pv 2))))
      (pss_cons (ps_set (i := 7) nd rfl (by first | exact Or.inl rfl | exact Or.inr rfl) (pe_op op_add (pe_op op_mul pe_int (pv 4)) (pe_op op_mulW (pv 1) (pv 3))))
      (pss_cons (ps_set (i := 8) nd rfl (by first | exact Or.inl rfl | exact Or.inr rfl) (pe_op op_add (pe_op op_mulW (pv 3) (pv 3)) (pe_op op_mul pe_int (pv 5))))
      (pss_cons (ps_set (i := 9) nd rfl (by first | exact Or.inl rfl | exact Or.inr rfl) (pe_op op_sub (pe_op op_add (pe_op op_sub (pe_op op_add (pe_op op_mulW (pe_op op_mulW (pv 1) (pv 1)) (pv 5)) (pe_op op_mulW (pe_op op_mul pe_int (pv 2)) (pv 5))) (pe_op op_mulW (pe_op op_mulW (pv 1) (pv 3)) (pv 4))) (pe_op op_mulW (pe_op op_mulW (pv 2) (pv 3)) (pv 3))) (pe_op op_mulW (pv 4) (pv 4))))
      (pss_cons (ps_set (i := 10) nd rfl (by first | exact Or.inl rfl | exact Or.inr rfl) (pe_op op_sub (pe_op op_mulW (pv 6) (pv 6)) (pe_op op_mul pe_int (pv 7))))
      (pss_cons (ps_set (i := 11) nd rfl (by first | exact Or.inl rfl | exact Or.inr rfl) (pe_op op_sub (pe_op op_sub (pe_op op_mulW (pe_op op_mul pe_int (pv 6)) (pv 7)) (pe_op op_mulW (pe_op op_mulW (pv 6) (pv 6)) (pv 6))) (pe_op op_mul pe_int (pv 8))))
      (pss_cons (ps_set (i := 12) nd rfl (by first | exact Or.inl rfl | exact Or.inr rfl) (pe_op op_sub (pe_op op_sub (pe_op op_sub (pe_op op_mulW (pe_op op_mulW (pe_op op_mul pe_int (pv 6)) (pv 7)) (pv 8)) (pe_op op_mulW (pe_op op_mulW (pv 6) (pv 6)) (pv 9))) (pe_op op_mulW (pe_op op_mulW (pe_op op_mul pe_int (pv 7)) (pv 7)) (pv 7))) (pe_op op_mulW (pe_op op_mul pe_int (pv 8)) (pv 8))))
      (pss_one (ps_ret (pe_tup (pa_cons (pv 6) (pa_cons (pv 7) (pa_cons (pv 8) (pa_cons (pv 9) (pa_cons (pv 10) (pa_cons (pv 11) (pa_cons (pv 12) pa_nil)))))))))))))))))), ?_⟩
    refine ⟨.ref p, rfl, p, c, rfl, hx, ?_⟩
    have e2 := hm.b2
    have e4 := hm.b4
    have e6 := hm.b6
    have e8 := hm.b8
    obtain ⟨h1, h2, h3, h4, h6⟩ := hm
    refine ⟨p, _, rfl, hx, rfl, _, _, rfl, _, _, rfl, _, _, rfl, _, _, rfl, _, _, rfl, rfl, ?_⟩
    first | refine sigN [some (.ref p), some (.int (c.a1)), some (.int (c.a2)), some (.int (c.a3)), some (.int (c.a4)), some (.int (c.a6)), none, none, none, none, none, none, none] (by rfl) ?_ | refine sig [some (.ref p), some (.int (c.a1)), some (.int (c.a2)), some (.int (c.a3)), some (.int (c.a4)), some (.int (c.a6)), none, none, none, none, none, none, none] (by rfl) ?_
    refine ⟨_, rfl, _, rfl, _, _, rfl, rfl, (by walk_at "bnd"), _, rfl, _, _, rfl, rfl, (Or.inl ⟨by decide, by decide⟩), _, _, rfl, rfl, ?_⟩
    first | refine sigN [some (.ref p), some (.int (c.a1)), some (.int (c.a2)), some (.int (c.a3)), some (.int (c.a4)), some (.int (c.a6)), some (.int (c.b2)), none, none, none, none, none, none] (by rfl) ?_ | refine sig [some (.ref p), some (.int (c.a1)), some (.int (c.a2)), some (.int (c.a3)), some (.int (c.a4)), some (.int (c.a6)), some (.int (c.b2)), none, none, none, none, none, none] (by rfl) ?_
    refine ⟨_, rfl, _, _, rfl, rfl, (Or.inl ⟨by decide, by decide⟩), _, rfl, _, rfl, _, _, rfl, rfl, (by walk_at "bnd"), _, _, rfl, rfl, ?_⟩
    first | refine sigN [some (.ref p), some (.int (c.a1)), some (.int (c.a2)), some (.int (c.a3)), some (.int (c.a4)), some (.int (c.a6)), some (.int (c.b2)), some (.int (c.b4)), none, none, none, none, none] (by rfl) ?_ | refine sig [some (.ref p), some (.int (c.a1)), some (.int (c.a2)), some (.int (c.a3)), some (.int (c.a4)), some (.int (c.a6)), some (.int (c.b2)), some (.int (c.b4)), none, none, none, none, none] (by rfl) ?_
    refine ⟨_, rfl, _, rfl, _, _, rfl, rfl, (by walk_at "bnd"), _, rfl, _, _, rfl, rfl, (Or.inl ⟨by decide, by decide⟩), _, _, rfl, rfl, ?_⟩
    first | refine sigN [some (.ref p), some (.int (c.a1)), some (.int (c.a2)), some (.int (c.a3)), some (.int (c.a4)), some (.int (c.a6)), some (.int (c.b2)), some (.int (c.b4)), some (.int (c.b6)), none, none, none, none] (by rfl) ?_ | refine sig [some (.ref p), some (.int (c.a1)), some (.int (c.a2)), some (.int (c.a3)), some (.int (c.a4)), some (.int (c.a6)), some (.int (c.b2)), some (.int (c.b4)), some (.int (c.b6)), none, none, none, none] (by rfl) ?_
    refine ⟨_, rfl, _, rfl, _, _, rfl, rfl, (by walk_at "bnd"), _, rfl, _, _, rfl, rfl, (by walk_at "bnd"), _, rfl, _, _, rfl, rfl, (Or.inl ⟨by decide, by decide⟩), _, rfl, _, _, rfl, rfl, (by walk_at "bnd"), _, _, rfl, rfl, _, rfl, _, rfl, _, _, rfl, rfl, (by walk_at "bnd"), _, rfl, _, _, rfl, rfl, (by walk_at "bnd"), _, _, rfl, rfl, _, rfl, _, rfl, _, _, rfl, rfl, (by walk_at "bnd"), _, rfl, _, _, rfl, rfl, (by walk_at "bnd"), _, _, rfl, rfl, _, rfl, _, rfl, _, _, rfl, rfl, (by walk_at "bnd"), _, _, rfl, rfl, ?_⟩
    first | refine sigN [some (.ref p), some (.int (c.a1)), some (.int (c.a2)), some (.int (c.a3)), some (.int (c.a4)), some (.int (c.a6)), some (.int (c.b2)), some (.int (c.b4)), some (.int (c.b6)), some (.int (c.b8)), none, none, none] (by rfl) ?_ | refine sig [some (.ref p), some (.int (c.a1)), some (.int (c.a2)), some (.int (c.a3)), some (.int (c.a4)), some (.int (c.a6)), some (.int (c.b2)), some (.int (c.b4)), some (.int (c.b6)), some (.int (c.b8)), none, none, none] (by rfl) ?_
    refine ⟨_, rfl, _, rfl, _, _, rfl, rfl, (by walk_at "bnd"), _, rfl, _, _, rfl, rfl, (Or.inl ⟨by decide, by decide⟩), _, _, rfl, rfl, ?_⟩
    first | refine sigN [some (.ref p), some (.int (c.a1)), some (.int (c.a2)), some (.int (c.a3)), some (.int (c.a4)), some (.int (c.a6)), some (.int (c.b2)), some (.int (c.b4)), some (.int (c.b6)), some (.int (c.b8)), some (.int (c.c4)), none, none] (by rfl) ?_ | refine sig [some (.ref p), some (.int (c.a1)), some (.int (c.a2)), some (.int (c.a3)), some (.int (c.a4)), some (.int (c.a6)), some (.int (c.b2)), some (.int (c.b4)), some (.int (c.b6)), some (.int (c.b8)), some (.int (c.c4)), none, none] (by rfl) ?_
    refine ⟨_, rfl, _, _, rfl, rfl, (Or.inl ⟨by decide, by decide⟩), _, rfl, _, _, rfl, rfl, (by walk_at "bnd"), _, rfl, _, rfl, _, _, rfl, rfl, (by walk_at "bnd"), _, rfl, _, _, rfl, rfl, (by walk_at "bnd"), _, _, rfl, rfl, _, rfl, _, _, rfl, rfl, (Or.inl ⟨by decide, by decide⟩), _, _, rfl, rfl, ?_⟩
    first | refine sigN [some (.ref p), some (.int (c.a1)), some (.int (c.a2)), some (.int (c.a3)), some (.int (c.a4)), some (.int (c.a6)), some (.int (c.b2)), some (.int (c.b4)), some (.int (c.b6)), some (.int (c.b8)), some (.int (c.c4)), some (.int (c.c6)), none] (by rfl) ?_ | refine sig [some (.ref p), some (.int (c.a1)), some (.int (c.a2)), some (.int (c.a3)), some (.int (c.a4)), some (.int (c.a6)), some (.int (c.b2)), some (.int (c.b4)), some (.int (c.b6)), some (.int (c.b8)), some (.int (c.c4)), some (.int (c.c6)), none] (by rfl) ?_
    refine ⟨_, rfl, _, _, rfl, rfl, (Or.inl ⟨by decide, by decide⟩), _, rfl, _, _, rfl, rfl, (by walk_at "bnd"), _, rfl, _, _, rfl, rfl, (by walk_at "bnd"), _, rfl, _, rfl, _, _, rfl, rfl, (by walk_at "bnd"), _, rfl, _, _, rfl, rfl, (by walk_at "bnd"), _, _, rfl, rfl, _, rfl, _, _, rfl, rfl, (Or.inl ⟨by decide, by decide⟩), _, rfl, _, _, rfl, rfl, (by walk_at "bnd"), _, rfl, _, _, rfl, rfl, (by walk_at "bnd"), _, _, rfl, rfl, _, rfl, _, _, rfl, rfl, (Or.inl ⟨by decide, by decide⟩), _, rfl, _, _, rfl, rfl, (by walk_at "bnd"), _, _, rfl, rfl, ?_⟩
    first | refine sigN [some (.ref p), some (.int (c.a1)), some (.int (c.a2)), some (.int (c.a3)), some (.int (c.a4)), some (.int (c.a6)), some (.int (c.b2)), some (.int (c.b4)), some (.int (c.b6)), some (.int (c.b8)), some (.int (c.c4)), some (.int (c.c6)), some (.int (c.disc))] (by rfl) ?_ | refine sig [some (.ref p), some (.int (c.a1)), some (.int (c.a2)), some (.int (c.a3)), some (.int (c.a4)), some (.int (c.a6)), some (.int (c.b2)), some (.int (c.b4)), some (.int (c.b6)), some (.int (c.b8)), some (.int (c.c4)), some (.int (c.c6)), some (.int (c.disc))] (by rfl) ?_
    refine ⟨_, rfl, _, rfl, _, rfl, _, rfl, _, rfl, _, rfl, _, rfl, (by show 7 ≤ sizeLine; decide), fun t2 nt2 => ?_⟩
    exact q t2 nt2
/-! ### lowest -/
def sp_lowest : PySem.W.Frag → Sp := spCut
abbrev s_lowest : Stmt := topS 3
theorem sc_lowest : FnScope ["n", "d", "shared"] ["n", "d"] (defScope s_lowest) := ⟨rfl, rfl, rfl, by decide +kernel, rfl, by decide +kernel, by decide +kernel⟩
theorem k_lowest (T : Tx K mg) (D : Df K mg "lowest" s_lowest ["n", "d"])  : Kl P w K mg base 1 "lowest" (sp_lowest K) := by
  have nd := sc_lowest.nd
  refine Kl.by_body D sc_lowest (fun vs H Q E h => ?_) (fun f cdv A outer s H vs Q E hr h => ?_)
  · obtain ⟨_, _, rfl, _⟩ := h
    rfl
  · obtain ⟨n, d, rfl, hd, hn, hb, q⟩ := h
    have hu1 := hu_of hr
    refine ⟨_, (pss_cons (ps_set (i := 2) nd rfl (by first | exact Or.inl rfl | exact Or.inr rfl) (pe_callBfun cr_gcd (by rfl) T.gcd (pa_cons (pv 0) (pa_cons (pv 1) pa_nil))))
      (pss_cons (ps_if (pt_cmpR op_lt (pv 1) pe_int (nomark _)) (pss_one (ps_set (i := 2) nd rfl (by first | exact Or.inl rfl | exact Or.inr rfl) (pe_un un_neg (pv 2)))) pss_nil)
      (pss_one (ps_ret (pe_tup (pa_cons (pe_op op_fdivAny (pv 0) (pv 2)) (pa_cons (pe_op op_fdivAny (pv 1) (pv 2)) pa_nil))))))), ?_⟩
    refine ⟨_, rfl, _, rfl, n, d, rfl, ?_⟩
    have h1 : sg n d ≠ 0 := sg_ne hd
    have h2 : CDivAny n (sg n d) := div_any h1 (sg_B hd hb) (by decide)
    have h3 : CDivAny d (sg n d) := div_any h1 (sg_B hd hb) (by decide)
    refine ⟨_, rfl, d, 0, rfl, rfl, _, rfl, ite2 (fun e => ?_) (fun e => ?_)⟩
    · have e' : d < 0 := of_decide_eq_true e
      have es : sg n d = -((Nat.gcd n.natAbs d.natAbs : Nat) : Int) := if_pos e'
      refine ⟨_, rfl, _, rfl, ?_⟩
      refine ⟨_, rfl, _, rfl, n, _, rfl, rfl, es ▸ h2, _, rfl, _, rfl, d, _, rfl, rfl, es ▸ h3, (by show 2 ≤ sizeLine; decide), fun t nt => ?_⟩
      rw [← fq_div hd, es] at q
      exact q t nt
    · have e' : ¬ d < 0 := fun z => e (decide_eq_true z)
      have es : sg n d = ((Nat.gcd n.natAbs d.natAbs : Nat) : Int) := if_neg e'
      refine ⟨_, rfl, _, rfl, n, _, rfl, rfl, es ▸ h2, _, rfl, _, rfl, d, _, rfl, rfl, es ▸ h3, (by show 2 ≤ sizeLine; decide), fun t nt => ?_⟩
      rw [← fq_div hd, es] at q
      exact q t nt
/-! ### the sums -/
def sp_plus : PySem.W.Frag → Sp := spBin (fun a b => True) (fun a b => a + b)
abbrev s_plus : Stmt := topS 10
theorem sc_plus : FnScope ["f", "g"] ["f", "g"] (defScope s_plus) := ⟨rfl, rfl, rfl, by decide +kernel, rfl, by decide +kernel, by decide +kernel⟩
theorem k_plus (T : Tx K mg) (D : Df K mg "plus" s_plus ["f", "g"]) (c_lowest : Kl P w K mg base 1 "lowest" (sp_lowest K)) : Kl P w K mg base 2 "plus" (sp_plus K) := by
  have nd := sc_plus.nd
  refine Kl.by_body D sc_plus (fun vs H Q E h => ?_) (fun f cdv A outer s H vs Q E hr h => ?_)
  · obtain ⟨_, _, _, _, rfl, _⟩ := h
    rfl
  · obtain ⟨f, g, a, b, rfl, hf, hg, ha, hb, h0, q⟩ := h
    have hu1 := hu_of hr
    refine ⟨_, (pss_one (ps_ret (pe_k c_lowest  hr (by decide) (by rfl) (pa_cons (pe_op op_add (pe_op op_mulW (pe_ix ix_tup (pv 0) pe_int (fun _ _ => rfl)) (pe_ix ix_tup (pv 1) pe_int (fun _ _ => rfl))) (pe_op op_mulW (pe_ix ix_tup (pv 1) pe_int (fun _ _ => rfl)) (pe_ix ix_tup (pv 0) pe_int (fun _ _ => rfl)))) (pa_cons (pe_op op_mulW (pe_ix ix_tup (pv 0) pe_int (fun _ _ => rfl)) (pe_ix ix_tup (pv 1) pe_int (fun _ _ => rfl))) pa_nil))))), ?_⟩
    refine ⟨.ref f, rfl, f, _, 0, .int a.num, rfl, rfl, hf, rfl, .ref g, rfl, g, _, 1, .int b.den, rfl, rfl, hg, rfl, _, _, rfl, rfl, (B.mulW ha.n hb.d (by decide)), .ref g, rfl, g, _, 0, .int b.num, rfl, rfl, hg, rfl, .ref f, rfl, f, _, 1, .int a.den, rfl, rfl, hf, rfl, _, _, rfl, rfl, (B.mulW hb.n ha.d (by decide)), _, _, rfl, rfl, .ref f, rfl, f, _, 1, .int a.den, rfl, rfl, hf, rfl, .ref g, rfl, g, _, 1, .int b.den, rfl, rfl, hg, rfl, _, _, rfl, rfl, (B.mulW ha.d hb.d (by decide)), _, _, rfl, (mul_ne (den_ne a) (den_ne b)), ((B.mul ha.n hb.d).add (B.mul hb.n ha.d)).up (by decide), (B.mul ha.d hb.d).up (by decide), fun t nt => ?_⟩
    rw [fr_add a b]
    exact q t nt
def sp_less : PySem.W.Frag → Sp := spBin (fun a b => True) (fun a b => a - b)
abbrev s_less : Stmt := topS 11
theorem sc_less : FnScope ["f", "g"] ["f", "g"] (defScope s_less) := ⟨rfl, rfl, rfl, by decide +kernel, rfl, by decide +kernel, by decide +kernel⟩
theorem k_less (T : Tx K mg) (D : Df K mg "less" s_less ["f", "g"]) (c_lowest : Kl P w K mg base 1 "lowest" (sp_lowest K)) : Kl P w K mg base 2 "less" (sp_less K) := by
  have nd := sc_less.nd
  refine Kl.by_body D sc_less (fun vs H Q E h => ?_) (fun f cdv A outer s H vs Q E hr h => ?_)
  · obtain ⟨_, _, _, _, rfl, _⟩ := h
    rfl
  · obtain ⟨f, g, a, b, rfl, hf, hg, ha, hb, h0, q⟩ := h
    have hu1 := hu_of hr
    refine ⟨_, (pss_one (ps_ret (pe_k c_lowest  hr (by decide) (by rfl) (pa_cons (pe_op op_sub (pe_op op_mulW (pe_ix ix_tup (pv 0) pe_int (fun _ _ => rfl)) (pe_ix ix_tup (pv 1) pe_int (fun _ _ => rfl))) (pe_op op_mulW (pe_ix ix_tup (pv 1) pe_int (fun _ _ => rfl)) (pe_ix ix_tup (pv 0) pe_int (fun _ _ => rfl)))) (pa_cons (pe_op op_mulW (pe_ix ix_tup (pv 0) pe_int (fun _ _ => rfl)) (pe_ix ix_tup (pv 1) pe_int (fun _ _ => rfl))) pa_nil))))), ?_⟩
    refine ⟨.ref f, rfl, f, _, 0, .int a.num, rfl, rfl, hf, rfl, .ref g, rfl, g, _, 1, .int b.den, rfl, rfl, hg, rfl, _, _, rfl, rfl, (B.mulW ha.n hb.d (by decide)), .ref g, rfl, g, _, 0, .int b.num, rfl, rfl, hg, rfl, .ref f, rfl, f, _, 1, .int a.den, rfl, rfl, hf, rfl, _, _, rfl, rfl, (B.mulW hb.n ha.d (by decide)), _, _, rfl, rfl, .ref f, rfl, f, _, 1, .int a.den, rfl, rfl, hf, rfl, .ref g, rfl, g, _, 1, .int b.den, rfl, rfl, hg, rfl, _, _, rfl, rfl, (B.mulW ha.d hb.d (by decide)), _, _, rfl, (mul_ne (den_ne a) (den_ne b)), ((B.mul ha.n hb.d).sub (B.mul hb.n ha.d)).up (by decide), (B.mul ha.d hb.d).up (by decide), fun t nt => ?_⟩
    rw [fr_sub a b]
    exact q t nt
def sp_times : PySem.W.Frag → Sp := spBin (fun a b => True) (fun a b => a * b)
abbrev s_times : Stmt := topS 12
theorem sc_times : FnScope ["f", "g"] ["f", "g"] (defScope s_times) := ⟨rfl, rfl, rfl, by decide +kernel, rfl, by decide +kernel, by decide +kernel⟩
theorem k_times (T : Tx K mg) (D : Df K mg "times" s_times ["f", "g"]) (c_lowest : Kl P w K mg base 1 "lowest" (sp_lowest K)) : Kl P w K mg base 2 "times" (sp_times K) := by
  have nd := sc_times.nd
  refine Kl.by_body D sc_times (fun vs H Q E h => ?_) (fun f cdv A outer s H vs Q E hr h => ?_)
  · obtain ⟨_, _, _, _, rfl, _⟩ := h
    rfl
  · obtain ⟨f, g, a, b, rfl, hf, hg, ha, hb, h0, q⟩ := h
    have hu1 := hu_of hr
    refine ⟨_, (pss_one (ps_ret (pe_k c_lowest  hr (by decide) (by rfl) (pa_cons (pe_op op_mulW (pe_ix ix_tup (pv 0) pe_int (fun _ _ => rfl)) (pe_ix ix_tup (pv 1) pe_int (fun _ _ => rfl))) (pa_cons (pe_op op_mulW (pe_ix ix_tup (pv 0) pe_int (fun _ _ => rfl)) (pe_ix ix_tup (pv 1) pe_int (fun _ _ => rfl))) pa_nil))))), ?_⟩
    refine ⟨.ref f, rfl, f, _, 0, .int a.num, rfl, rfl, hf, rfl, .ref g, rfl, g, _, 0, .int b.num, rfl, rfl, hg, rfl, _, _, rfl, rfl, (B.mulW ha.n hb.n (by decide)), .ref f, rfl, f, _, 1, .int a.den, rfl, rfl, hf, rfl, .ref g, rfl, g, _, 1, .int b.den, rfl, rfl, hg, rfl, _, _, rfl, rfl, (B.mulW ha.d hb.d (by decide)), _, _, rfl, (mul_ne (den_ne a) (den_ne b)), (B.mul ha.n hb.n).up (by decide), (B.mul ha.d hb.d).up (by decide), fun t nt => ?_⟩
    rw [fr_mul a b]
    exact q t nt
def sp_over : PySem.W.Frag → Sp := spBin (fun a b => b ≠ 0) (fun a b => a / b)
abbrev s_over : Stmt := topS 13
theorem sc_over : FnScope ["f", "g"] ["f", "g"] (defScope s_over) := ⟨rfl, rfl, rfl, by decide +kernel, rfl, by decide +kernel, by decide +kernel⟩
theorem k_over (T : Tx K mg) (D : Df K mg "over" s_over ["f", "g"]) (c_lowest : Kl P w K mg base 1 "lowest" (sp_lowest K)) : Kl P w K mg base 2 "over" (sp_over K) := by
  have nd := sc_over.nd
  refine Kl.by_body D sc_over (fun vs H Q E h => ?_) (fun f cdv A outer s H vs Q E hr h => ?_)
  · obtain ⟨_, _, _, _, rfl, _⟩ := h
    rfl
  · obtain ⟨f, g, a, b, rfl, hf, hg, ha, hb, h0, q⟩ := h
    have hu1 := hu_of hr
    refine ⟨_, (pss_one (ps_ret (pe_k c_lowest  hr (by decide) (by rfl) (pa_cons (pe_op op_mulW (pe_ix ix_tup (pv 0) pe_int (fun _ _ => rfl)) (pe_ix ix_tup (pv 1) pe_int (fun _ _ => rfl))) (pa_cons (pe_op op_mulW (pe_ix ix_tup (pv 0) pe_int (fun _ _ => rfl)) (pe_ix ix_tup (pv 1) pe_int (fun _ _ => rfl))) pa_nil))))), ?_⟩
    refine ⟨.ref f, rfl, f, _, 0, .int a.num, rfl, rfl, hf, rfl, .ref g, rfl, g, _, 1, .int b.den, rfl, rfl, hg, rfl, _, _, rfl, rfl, (B.mulW ha.n hb.d (by decide)), .ref f, rfl, f, _, 1, .int a.den, rfl, rfl, hf, rfl, .ref g, rfl, g, _, 0, .int b.num, rfl, rfl, hg, rfl, _, _, rfl, rfl, (B.mulW ha.d hb.n (by decide)), _, _, rfl, (mul_ne (den_ne a) (num_ne h0)), (B.mul ha.n hb.d).up (by decide), (B.mul ha.d hb.n).up (by decide), fun t nt => ?_⟩
    rw [fr_div a b h0]
    exact q t nt
/-! ### whole_fraction -/
def sp_whole_fraction (K : PySem.W.Frag) : Sp := fun vs H Q _ => ∃ n : Int, vs = [.int n] ∧ ∀ t, H t = none → Q (.ref t) (upd H t (.tup (fq (n : Rat))))
abbrev s_whole_fraction : Stmt := topS 14
theorem sc_whole_fraction : FnScope ["n"] ["n"] (defScope s_whole_fraction) := ⟨rfl, rfl, rfl, by decide +kernel, rfl, by decide +kernel, by decide +kernel⟩
theorem k_whole_fraction (T : Tx K mg) (D : Df K mg "whole_fraction" s_whole_fraction ["n"])  : Kl P w K mg base 1 "whole_fraction" (sp_whole_fraction K) := by
  have nd := sc_whole_fraction.nd
  refine Kl.by_body D sc_whole_fraction (fun vs H Q E h => ?_) (fun f cdv A outer s H vs Q E hr h => ?_)
  · obtain ⟨_, rfl, _⟩ := h
    rfl
  · obtain ⟨n, rfl, q⟩ := h
    have hu1 := hu_of hr
    refine ⟨_, (pss_one (ps_ret (pe_tup (pa_cons (pv 0) (pa_cons pe_int pa_nil))))), ?_⟩
    refine ⟨_, rfl, (by show 2 ≤ sizeLine; decide), fun t nt => ?_⟩
    rw [fq_int] at q
    exact q t nt
/-! ### total, product -/
theorem foldl_take (op : Rat → Rat → Rat) (e : Rat) (ps : List (Addr × Rat)) {i : Nat} {p : Addr × Rat} (h : ps[i]? = some p) : (ps.take (i + 1)).foldl (fun x p => op x p.2) e = op ((ps.take i).foldl (fun x p => op x p.2) e) p.2 := by
  rw [List.take_succ, List.foldl_append, h]
  rfl
theorem map_get {ps : List (Addr × Rat)} {i : Nat} {x : V} (h : (ps.map fun p => V.ref p.1)[i]? = some x) : ∃ p, ps[i]? = some p ∧ x = .ref p.1 := by
  rw [List.getElem?_map] at h
  cases e : ps[i]? with
  | none =>
    rw [e] at h
    cases h
  | some p =>
    rw [e] at h
    exact ⟨p, rfl, (Option.some.inj h).symm⟩
def sp_total : PySem.W.Frag → Sp := spSum (· + ·) 0
theorem q0 : [V.int 0, V.int 1] = fq 0 := rfl
theorem q1 : [V.int 1, V.int 1] = fq 1 := rfl
theorem _root_.QM.RB.zero : RB 1 (0 : Rat) := ⟨by decide, by decide⟩
theorem _root_.QM.RB.one : RB 1 (1 : Rat) := ⟨by decide, by decide⟩
abbrev s_total : Stmt := topS 15
theorem sc_total : FnScope ["fractions", "result", "f"] ["fractions"] (defScope s_total) := ⟨rfl, rfl, rfl, by decide +kernel, rfl, by decide +kernel, by decide +kernel⟩
theorem k_total (T : Tx K mg) (D : Df K mg "total" s_total ["fractions"]) (c_plus : Kl P w K mg base 2 "plus" (sp_plus K)) : Kl P w K mg base 3 "total" (sp_total K) := by
  have nd := sc_total.nd
  refine Kl.by_body D sc_total (fun vs H Q E h => ?_) (fun f cdv A outer s H vs Q E hr h => ?_)
  · obtain ⟨_, _, _, rfl, _⟩ := h
    rfl
  · obtain ⟨l, ps, m, rfl, hx, hp, hl, q⟩ := h
    have hu1 := hu_of hr
    refine ⟨_, (pss_cons (ps_set (i := 1) nd rfl (by first | exact Or.inl rfl | exact Or.inr rfl) (pe_tup (pa_cons pe_int (pa_cons pe_int pa_nil))))
      (pss_cons (ps_for PassesOwn.never rfl (pi_list (pv 0)) (pg_name (i := 2) nd rfl (by first | exact Or.inl rfl | exact Or.inr rfl)) (pss_one (ps_set (i := 1) nd rfl (by first | exact Or.inl rfl | exact Or.inr rfl) (pe_k c_plus  hr (by decide) (by rfl) (pa_cons (pv 1) (pa_cons (pv 2) pa_nil))))))
      (pss_one (ps_ret (pv 1))))), ?_⟩
    refine ⟨(by show 2 ≤ sizeLine; decide), fun r nr => ?_⟩
    rw [q0]
    have s1 := Same.new (H := H) (p := r) (o := .tup (fq 0)) nr
    have g1 : upd H r (.tup (fq 0)) r = some (.tup (fq 0)) := upd_same
    generalize upd H r (.tup (fq 0)) = H1 at s1 g1 ⊢
    refine ⟨_, rfl, l, rfl, ⟨_, s1.seq hx⟩, for_list (K := K) (a := l) (xs := ps.map fun p => .ref p.1) (fun i σ H2 => Same H H2 ∧ ∃ (r : Addr) (v : Option V), σ = [some (.ref l), some (.ref r), v] ∧ H r = none ∧ H2 r = some (.tup (fq ((ps.take i).foldl (fun x p => x + p.2) 0))) ∧ RB (i * (m + 1) + 1) ((ps.take i).foldl (fun x p => x + p.2) 0)) ⟨s1, r, none, rfl, nr, g1, RB.zero.up (by omega)⟩ (fun i σ H2 _ z => z.1.seq hx) ?_ ?_⟩
    · rintro i x σ H2 hi ⟨s2, r2, v, rfl, n2, g2, b2⟩
      obtain ⟨p, hpi, rfl⟩ := map_get hi
      obtain ⟨h1, h2⟩ := hp p (List.mem_of_getElem? hpi)
      have hi2 : i < ps.length := (List.getElem?_eq_some_iff.mp hpi).1
      have hsz : (i + 1) * (m + 1) ≤ 2900 := Nat.le_trans (Nat.mul_le_mul_right _ hi2) hl
      rw [Nat.add_mul, Nat.one_mul] at hsz
      refine ⟨_, rfl, _, rfl, r2, p.1, _, _, rfl, tup_of g2, Same.tup s2 h1, b2.up (by omega), h2.up (by omega), trivial, fun t nt => ?_⟩
      refine ⟨Same.put s2 (s2.free nt), t, _, rfl, s2.free nt, ?_, ?_⟩
      · rw [upd_same, foldl_take _ _ _ hpi]
      · rw [foldl_take (fun a b => a + b) 0 _ hpi]
        exact (b2.add h2).up (by rw [Nat.add_mul]; omega)
    · rintro σ H2 ⟨s2, r2, v, rfl, n2, g2, b2⟩
      rw [List.length_map, List.take_length] at g2
      rw [List.length_map, List.take_length] at b2
      exact ⟨_, rfl, q _ r2 s2 n2 g2 b2⟩
def sp_product : PySem.W.Frag → Sp := spSum (· * ·) 1
abbrev s_product : Stmt := topS 16
theorem sc_product : FnScope ["fractions", "result", "f"] ["fractions"] (defScope s_product) := ⟨rfl, rfl, rfl, by decide +kernel, rfl, by decide +kernel, by decide +kernel⟩
theorem k_product (T : Tx K mg) (D : Df K mg "product" s_product ["fractions"]) (c_times : Kl P w K mg base 2 "times" (sp_times K)) : Kl P w K mg base 3 "product" (sp_product K) := by
  have nd := sc_product.nd
  refine Kl.by_body D sc_product (fun vs H Q E h => ?_) (fun f cdv A outer s H vs Q E hr h => ?_)
  · obtain ⟨_, _, _, rfl, _⟩ := h
    rfl
  · obtain ⟨l, ps, m, rfl, hx, hp, hl, q⟩ := h
    have hu1 := hu_of hr
    refine ⟨_, (pss_cons (ps_set (i := 1) nd rfl (by first | exact Or.inl rfl | exact Or.inr rfl) (pe_tup (pa_cons pe_int (pa_cons pe_int pa_nil))))
      (pss_cons (ps_for PassesOwn.never rfl (pi_list (pv 0)) (pg_name (i := 2) nd rfl (by first | exact Or.inl rfl | exact Or.inr rfl)) (pss_one (ps_set (i := 1) nd rfl (by first | exact Or.inl rfl | exact Or.inr rfl) (pe_k c_times  hr (by decide) (by rfl) (pa_cons (pv 1) (pa_cons (pv 2) pa_nil))))))
      (pss_one (ps_ret (pv 1))))), ?_⟩
    refine ⟨(by show 2 ≤ sizeLine; decide), fun r nr => ?_⟩
    rw [q1]
    have s1 := Same.new (H := H) (p := r) (o := .tup (fq 1)) nr
    have g1 : upd H r (.tup (fq 1)) r = some (.tup (fq 1)) := upd_same
    generalize upd H r (.tup (fq 1)) = H1 at s1 g1 ⊢
    refine ⟨_, rfl, l, rfl, ⟨_, s1.seq hx⟩, for_list (K := K) (a := l) (xs := ps.map fun p => .ref p.1) (fun i σ H2 => Same H H2 ∧ ∃ (r : Addr) (v : Option V), σ = [some (.ref l), some (.ref r), v] ∧ H r = none ∧ H2 r = some (.tup (fq ((ps.take i).foldl (fun x p => x * p.2) 1))) ∧ RB (i * (m + 1) + 1) ((ps.take i).foldl (fun x p => x * p.2) 1)) ⟨s1, r, none, rfl, nr, g1, RB.one.up (by omega)⟩ (fun i σ H2 _ z => z.1.seq hx) ?_ ?_⟩
    · rintro i x σ H2 hi ⟨s2, r2, v, rfl, n2, g2, b2⟩
      obtain ⟨p, hpi, rfl⟩ := map_get hi
      obtain ⟨h1, h2⟩ := hp p (List.mem_of_getElem? hpi)
      have hi2 : i < ps.length := (List.getElem?_eq_some_iff.mp hpi).1
      have hsz : (i + 1) * (m + 1) ≤ 2900 := Nat.le_trans (Nat.mul_le_mul_right _ hi2) hl
      rw [Nat.add_mul, Nat.one_mul] at hsz
      refine ⟨_, rfl, _, rfl, r2, p.1, _, _, rfl, tup_of g2, Same.tup s2 h1, b2.up (by omega), h2.up (by omega), trivial, fun t nt => ?_⟩
      refine ⟨Same.put s2 (s2.free nt), t, _, rfl, s2.free nt, ?_, ?_⟩
      · rw [upd_same, foldl_take _ _ _ hpi]
      · rw [foldl_take (fun a b => a * b) 1 _ hpi]
        exact (b2.mul h2).up (by rw [Nat.add_mul]; omega)
    · rintro σ H2 ⟨s2, r2, v, rfl, n2, g2, b2⟩
      rw [List.length_map, List.take_length] at g2
      rw [List.length_map, List.take_length] at b2
      exact ⟨_, rfl, q _ r2 s2 n2 g2 b2⟩
end
end K07
set_option Elab.async false
set_option linter.all false
set_option maxRecDepth 100000
set_option maxHeartbeats 4000000
namespace K07
open PySem PySem.Spec PyProof.Rows L2 Gd QM
section
variable {P : Program} {w : World} {K : PySem.W.Frag} {mg : Str → Option Value} {base : Heap}
/-! ### power -/
theorem pw_odd (y x : Int) {j : Nat} (h : j % 2 = 1) : y * x ^ j = y * x * (x * x) ^ (j / 2) := by
  have e : j = 2 * (j / 2) + 1 := by omega
  have e2 : x ^ j = x ^ (j / 2) * x ^ (j / 2) * x := by
    calc x ^ j = x ^ (2 * (j / 2) + 1) := by rw [← e]
      _ = _ := by rw [Int.pow_succ, Nat.two_mul, Int.pow_add]
  have e3 : (x * x) ^ (j / 2) = x ^ (j / 2) * x ^ (j / 2) := Int.mul_pow ..
  rw [e2, e3]
  grind
theorem pw_even (y x : Int) {j : Nat} (h : j % 2 = 0) : y * x ^ j = y * (x * x) ^ (j / 2) := by
  have e : j = 2 * (j / 2) := by omega
  have e2 : x ^ j = x ^ (j / 2) * x ^ (j / 2) := by
    calc x ^ j = x ^ (2 * (j / 2)) := by rw [← e]
      _ = _ := by rw [Nat.two_mul, Int.pow_add]
  have e3 : (x * x) ^ (j / 2) = x ^ (j / 2) * x ^ (j / 2) := Int.mul_pow ..
  rw [e2, e3]
def sp_power (K : PySem.W.Frag) : Sp := fun vs H Q _ => ∃ (a e : Int), vs = [.int a, .int e] ∧ 0 ≤ e ∧ e ≤ 8 ∧ B 400 a ∧ Q (.int (a ^ e.toNat)) H
abbrev s_power : Stmt := topS 2
theorem sc_power : FnScope ["a", "e", "result"] ["a", "e"] (defScope s_power) := ⟨rfl, rfl, rfl, by decide +kernel, rfl, by decide +kernel, by decide +kernel⟩
theorem k_power (T : Tx K mg) (D : Df K mg "power" s_power ["a", "e"])  : Kl P w K mg base 1 "power" (sp_power K) := by
  have nd := sc_power.nd
  refine Kl.by_body D sc_power (fun vs H Q E h => ?_) (fun f cdv A outer s H vs Q E hr h => ?_)
  · obtain ⟨_, _, rfl, _⟩ := h
    rfl
  · obtain ⟨a, e, rfl, h0, h8, ha, q⟩ := h
    have hu1 := hu_of hr
    refine ⟨_, (pss_cons (ps_set (i := 2) nd rfl (by first | exact Or.inl rfl | exact Or.inr rfl) pe_int)
      (pss_cons (ps_while PassesOwn.never (pt_cmpR op_gt (pv 1) pe_int (nomark _)) (C8.pss_cut (ps_if (pt_truth (pe_op op_and (pv 1) pe_int) (fun _ => rfl)) (pss_one (ps_set (i := 2) nd rfl (by first | exact Or.inl rfl | exact Or.inr rfl) (pe_op op_mulW (pv 2) (pv 0)))) pss_nil)
      (pss_cons (ps_set (i := 1) nd rfl (by first | exact Or.inl rfl | exact Or.inr rfl) (pe_op op_shr (pv 1) pe_int))
      (pss_one (ps_if (pt_cmpR op_gt (pv 1) pe_int (nomark _)) (pss_one (ps_set (i := 0) nd rfl (by first | exact Or.inl rfl | exact Or.inr rfl) (pe_op op_mulW (pv 0) (pv 0)))) pss_nil)))))
      (pss_one (ps_ret (pv 2))))), ?_⟩
    refine while_by (fun σ H2 => ∃ (x y : Int) (j i : Nat), σ = [some (.int x), some (.int (j : Int)), some (.int y)] ∧ H2 = H ∧ y * x ^ j = a ^ e.toNat ∧ j * 2 ^ i ≤ 8 ∧ (j ≠ 0 → B (400 * 2 ^ i) x) ∧ B (400 * 2 ^ i) y ∧ i ≤ 4)
      (fun σ _ => match σ with | [_, some (.int j), _] => j.toNat | _ => 0) ⟨a, 1, e.toNat, 0, ?_, rfl, Int.one_mul _, by omega, fun _ => ha, B.lit (by decide), by decide⟩ ?_ ?_
    · rw [show ((e.toNat : Nat) : Int) = e by omega]
      rfl
    · rintro σ H2 ⟨x, y, j, i, rfl, rfl, h1, h2, h3, h4, h5⟩
      refine ⟨_, rfl, _, _, rfl, rfl, _, rfl, ?_⟩
      by_cases hj : j = 0
      · subst hj
        refine iteN (by simp) ?_
        refine ⟨_, rfl, ?_⟩
        rw [Int.pow_zero, Int.mul_one] at h1
        rw [h1]
        exact q
      · refine iteY (by simp; omega) ?_
        have hx := h3 hj
        have hi : i ≤ 3 := by
          rcases Nat.lt_or_ge 3 i with z | z
          · have h6 : 1 * 2 ^ 4 ≤ j * 2 ^ i := Nat.mul_le_mul (by omega) (Nat.pow_le_pow_right (by decide) z)
            omega
          · exact z
        have e2 : 400 * 2 ^ (i + 1) = 400 * 2 ^ i + 400 * 2 ^ i := by rw [Nat.pow_succ]; omega
        have hw : 400 * 2 ^ i ≤ 3200 := by
          have h6 : 2 ^ i ≤ 2 ^ 3 := Nat.pow_le_pow_right (by decide) hi
          omega
        have hd : (j / 2) * 2 ^ (i + 1) ≤ 8 := by
          rw [Nat.pow_succ]
          have h6 : (j / 2) * 2 ≤ j := Nat.div_mul_le_self j 2
          have h7 : (j / 2) * 2 * 2 ^ i ≤ j * 2 ^ i := Nat.mul_le_mul_right _ h6
          calc j / 2 * (2 ^ i * 2) = (j / 2) * 2 * 2 ^ i := by rw [Nat.mul_comm (2 ^ i) 2, Nat.mul_assoc]
            _ ≤ _ := Nat.le_trans h7 h2
        refine ⟨fun σ H3 => H3 = H2 ∧ σ = [some (.int x), some (.int (j : Int)), some (.int (if j % 2 = 1 then y * x else y))], ?_, ?_⟩
        · refine ⟨_, rfl, (j : Int), 1, rfl, rfl, _, rfl, ?_⟩
          rw [bitAnd_m1]
          by_cases hp : j % 2 = 1
          · refine iteY (by simp; omega) ?_
            refine ⟨_, rfl, _, rfl, _, _, rfl, rfl, h4.mulW hx (by omega), rfl, ?_⟩
            rw [if_pos hp]
            rfl
          · refine iteN (by simp; omega) ?_
            refine ⟨rfl, ?_⟩
            rw [if_neg hp]
        · rintro σ H3 ⟨rfl, rfl⟩
          refine ⟨_, rfl, _, _, rfl, rfl, by omega, ?_⟩
          have hy : B (400 * 2 ^ (i + 1)) (if j % 2 = 1 then y * x else y) := by
            rw [e2]
            split
            · exact h4.mul hx
            · exact h4.up (by omega)
          have hj2 : (j : Int) / 2 ^ (1 : Int).toNat = ((j / 2 : Nat) : Int) := by
            show (j : Int) / 2 = _
            omega
          refine sigN [some (.int x), some (.int ((j / 2 : Nat) : Int)), some (.int (if j % 2 = 1 then y * x else y))] (by rw [← hj2]; rfl) ?_
          refine ⟨_, rfl, _, _, rfl, rfl, _, rfl, ?_⟩
          by_cases hk : j / 2 = 0
          · rw [hk]
            refine iteN (by simp) ?_
            have hj1 : j = 1 := by omega
            subst hj1
            rw [Int.pow_one] at h1
            exact ⟨⟨x, _, 0, i + 1, rfl, rfl, (by rw [Int.pow_zero, Int.mul_one]; exact h1), by omega, fun z => absurd rfl z, hy, by omega⟩, by show (0 : Int).toNat < ((1 : Nat) : Int).toNat; decide⟩
          · refine iteY (by simp; omega) ?_
            refine ⟨_, rfl, _, rfl, _, _, rfl, rfl, hx.mulW hx (by omega), ?_⟩
            refine ⟨⟨x * x, _, j / 2, i + 1, rfl, rfl, ?_, hd, fun _ => ?_, hy, by omega⟩, ?_⟩
            · rw [← h1]
              split
              · rename_i hp
                exact (pw_odd y x hp).symm
              · rename_i hp
                exact (pw_even y x (by omega)).symm
            · rw [e2]
              exact hx.mul hx
            · show ((j / 2 : Nat) : Int).toNat < ((j : Nat) : Int).toNat
              omega
    · rintro σ H2 Q1 Q2 i ⟨v, hv, x, y, e1, e2, k, e, z⟩
      exact ⟨v, hv, x, y, e1, e2, k, e, i _ _ z⟩
/-! ### root_of -/
def sp_root_of (K : PySem.W.Frag) : Sp := fun vs H Q _ => ∃ (n : Int) (m : Nat), vs = [.int n, .int ((m : Int) + 1)] ∧ 0 ≤ n ∧ B 200 n ∧ 1 ≤ m ∧ m ≤ 5 ∧ ∀ r, 0 ≤ r → B 400 r → r ^ (m + 1) ≤ n → (∀ s, 0 ≤ s → s ^ (m + 1) ≤ n → s ≤ r) → Q (.int r) H
abbrev s_root_of : Stmt := topS 4
theorem sc_root_of : FnScope ["n", "k", "r", "better"] ["n", "k"] (defScope s_root_of) := ⟨rfl, rfl, rfl, by decide +kernel, rfl, by decide +kernel, by decide +kernel⟩
theorem k_root_of (T : Tx K mg) (D : Df K mg "root_of" s_root_of ["n", "k"]) (c_power : Kl P w K mg base 1 "power" (sp_power K)) : Kl P w K mg base 2 "root_of" (sp_root_of K) := by
  have nd := sc_root_of.nd
  refine Kl.by_body D sc_root_of (fun vs H Q E h => ?_) (fun f cdv A outer s H vs Q E hr h => ?_)
  · obtain ⟨_, _, rfl, _⟩ := h
    rfl
  · obtain ⟨n, m, rfl, h0, hn, hm1, hm5, q⟩ := h
    have hu1 := hu_of hr
    refine ⟨_, (pss_cons (ps_if (PW.pt (pw_or (pt_cmpR op_lt (pv 0) pe_int (nomark _)) (pw_or1 (pt_cmpR op_eq (pv 1) pe_int (nomark _))))) (pss_one (ps_ret (pv 0))) pss_nil)
      (pss_cons (ps_if (pt_cmpR op_eq (pv 1) pe_int (nomark _)) (pss_one (ps_ret (pe_callBfun cr_isqrt (by rfl) T.isqrt (pa_cons (pv 0) pa_nil)))) pss_nil)
      (pss_cons (ps_set (i := 2) nd rfl (by first | exact Or.inl rfl | exact Or.inr rfl) (pe_op op_shlN pe_int (pe_op op_add (pe_op op_fdivAny (pe_bits (pv 0)) (pv 1)) pe_int)))
      (pss_one (ps_while PassesOwn.never (pt_val pe_bl) (pss_cons (ps_set (i := 3) nd rfl (by first | exact Or.inl rfl | exact Or.inr rfl) (pe_op op_fdivAny (pe_op op_add (pe_op op_mulW (pe_op op_sub (pv 1) pe_int) (pv 2)) (pe_op op_fdivAny (pv 0) (pe_k c_power  hr (by decide) (by rfl) (pa_cons (pv 2) (pa_cons (pe_op op_sub (pv 1) pe_int) pa_nil))))) (pv 1)))
      (pss_cons (ps_if (pt_cmpR op_ge (pv 3) (pv 2) (nomark _)) (pss_one (ps_ret (pv 2))) pss_nil)
      (pss_one (ps_set (i := 2) nd rfl (by first | exact Or.inl rfl | exact Or.inr rfl) (pv 3)))))))))), ?_⟩
    have bm : B 4 ((m : Int) + 1) := by
      unfold B
      omega
    refine ⟨_, rfl, n, 2, rfl, rfl, _, rfl, ?_⟩
    by_cases hn2 : n < 2
    · refine iteY (by simpa using hn2) ?_
      exact ⟨_, rfl, q n h0 (hn.up (by decide)) (pow01 h0 hn2 (by omega)) (fun s hs h => small_root hs (by omega) h)⟩
    · refine iteN (by simpa using hn2) ?_
      refine ⟨_, rfl, rfl, _, rfl, ?_⟩
      rw [dec_int]
      refine iteN (by simp; omega) ?_
      refine ⟨_, rfl, rfl, _, rfl, ?_⟩
      rw [dec_int]
      by_cases hk2 : (m : Int) + 1 = 2
      · refine iteY (by simpa using hk2) ?_
        obtain rfl : m = 1 := by omega
        obtain ⟨z1, z2⟩ := isqrt_is h0
        have hB4 : n.natAbs < 2 ^ 4000 := hn.up (n := 4000) (by decide)
        refine ⟨_, rfl, n, rfl, h0, hB4, ?_⟩
        generalize ((PySem.Float64.isqrt n.toNat : Nat) : Int) = y at z1 z2
        have hy0 : 0 ≤ y := by
          have := z2 0 (by decide) (by omega)
          omega
        have hyn : y ≤ n := by
          rcases (show y = 0 ∨ 1 ≤ y by omega) with e | e
          · omega
          · have := Int.mul_le_mul_of_nonneg_left e hy0
            omega
        have hyB : B 400 y := by
          refine B.up (m := 200) ?_ (by decide)
          unfold B at hn ⊢
          omega
        exact q y hy0 hyB (by rw [Int.pow_succ, Int.pow_succ, Int.pow_zero, Int.one_mul]; exact z1) (fun s hs h => z2 s hs (by rw [Int.pow_succ, Int.pow_succ, Int.pow_zero, Int.one_mul] at h; exact h))
      refine iteN (by simpa using hk2) ?_
      have hdv : ((Builtin.Int.intBits n : Nat) : Int).fdiv ((m : Int) + 1) + 1 = ((Builtin.Int.intBits n / (m + 1) + 1 : Nat) : Int) := by
        rw [Int.fdiv_eq_ediv_of_nonneg _ (by omega)]
        push_cast
        rfl
      have hbl : Builtin.Int.intBits n ≤ 200 := PyProof.Rows.intBits_le hn
      have hb2 : n.natAbs < 2 ^ Builtin.Int.intBits n := by
        unfold Builtin.Int.intBits
        rw [if_neg (by simp; omega)]
        exact Nat.lt_log2_self
      have hdl : Builtin.Int.intBits n / (m + 1) ≤ 100 := by
        have h1 : Builtin.Int.intBits n / (m + 1) ≤ Builtin.Int.intBits n / 2 := Nat.div_le_div_left (by omega) (by decide)
        omega
      refine ⟨_, rfl, n, rfl, _, rfl, _, _, rfl, rfl, div_any (by omega) bm (by decide), _, _, rfl, rfl, 1, Builtin.Int.intBits n / (m + 1) + 1, rfl, congrArg V.int hdv, shl_ok (n := 1) (by decide) (by omega), ?_⟩
      have hB : B 120 (1 * 2 ^ (Builtin.Int.intBits n / (m + 1) + 1) : Int) := by
        unfold B
        rw [Int.one_mul, Int.natAbs_pow]
        exact Nat.pow_lt_pow_right (by decide) (by omega)
      have hP : (1 : Int) ≤ 1 * 2 ^ (Builtin.Int.intBits n / (m + 1) + 1) := by
        have : (0 : Int) < 2 ^ (Builtin.Int.intBits n / (m + 1) + 1) := Int.pow_pos (by decide)
        omega
      refine while_by (fun σ H2 => ∃ (r : Int) (v : Option V), σ = [some (.int n), some (.int ((m : Int) + 1)), some (.int r), v] ∧ H2 = H ∧ 1 ≤ r ∧ B 120 r ∧ ∀ s, 0 ≤ s → s ^ (m + 1) ≤ n → s ≤ r)
        (fun σ _ => match σ with | [_, _, some (.int r), _] => r.toNat | _ => 0) ⟨_, none, rfl, rfl, hP, hB, fun s hs h => start_ge hs hb2 (by omega) h⟩ ?_ ?_
      · rintro σ H2 ⟨r, v, rfl, rfl, h1, hr2, hup⟩
        refine ⟨true, rfl, iteY rfl ?_⟩
        have e1 : (m : Int) + 1 - 1 = m := by omega
        have hpB : B 800 (r ^ m) := (hr2.pow m).up (by omega)
        have hp0 : 0 < r ^ m := Int.pow_pos (by omega)
        refine ⟨_, rfl, _, _, rfl, rfl, _, rfl, _, _, rfl, rfl, B.mulW (m := 4) (n := 120) (by unfold B; omega) hr2 (by decide), _, rfl, _, rfl, _, rfl, _, _, rfl, rfl, r, (m : Int), congrArg (fun z => [V.int r, V.int z]) e1, by omega, by omega, hr2.up (by decide), ?_⟩
        refine ⟨n, r ^ m, rfl, rfl, div_any (by omega) hpB (by decide), _, _, rfl, rfl, _, rfl, _, _, rfl, rfl, div_any (by omega) bm (by decide), ?_⟩
        refine sigN [some (.int n), some (.int ((m : Int) + 1)), some (.int r), some (.int (((m : Int) * r + n.fdiv (r ^ m)).fdiv ((m : Int) + 1)))] (by show [some (V.int n), some (V.int ((m : Int) + 1)), some (V.int r), some (V.int ((((m : Int) + 1 - 1) * r + n.fdiv (r ^ m)).fdiv ((m : Int) + 1)))] = _; rw [e1]) ?_
        have g1 := newton_ge (n := n) (r := r) (s := 1) (k := m) h1 (by decide) (by rw [Int.one_pow]; omega)
        refine ⟨_, rfl, _, rfl, _, _, rfl, rfl, _, rfl, ?_⟩
        by_cases hge : r ≤ ((m : Int) * r + n.fdiv (r ^ m)).fdiv ((m : Int) + 1)
        · refine iteY (by simpa using hge) ?_
          exact ⟨_, rfl, q r (by omega) (hr2.up (by decide)) (newton_le h1 hge) hup⟩
        · refine iteN (by simpa using hge) ?_
          refine ⟨_, rfl, ⟨_, _, rfl, rfl, g1, ?_, fun s hs h => newton_ge h1 hs h⟩, ?_⟩
          · unfold B at *
            omega
          · show Int.toNat _ < Int.toNat _
            omega
      · rintro σ H2 Q1 Q2 i ⟨c, hc, z⟩
        exact ⟨c, hc, i _ _ z⟩
/-! ### exact_root -/
def sp_exact_root (K : PySem.W.Frag) : Sp := fun vs H Q _ => ∃ (n : Int) (m : Nat), vs = [.int n, .int ((m : Int) + 1)] ∧ B 200 n ∧ 1 ≤ m ∧ m ≤ 5 ∧ m % 2 = 1 ∧ (∀ r, 0 ≤ r → B 400 r → r ^ (m + 1) = n → Q (.int r) H) ∧ ((∀ r, 0 ≤ r → r ^ (m + 1) ≠ n) → Q .non H)
abbrev s_exact_root : Stmt := topS 5
theorem sc_exact_root : FnScope ["n", "k", "r"] ["n", "k"] (defScope s_exact_root) := ⟨rfl, rfl, rfl, by decide +kernel, rfl, by decide +kernel, by decide +kernel⟩
theorem k_exact_root (T : Tx K mg) (D : Df K mg "exact_root" s_exact_root ["n", "k"]) (c_root_of : Kl P w K mg base 2 "root_of" (sp_root_of K)) (c_power : Kl P w K mg base 1 "power" (sp_power K)) : Kl P w K mg base 3 "exact_root" (sp_exact_root K) := by
  have nd := sc_exact_root.nd
  refine Kl.by_body D sc_exact_root (fun vs H Q E h => ?_) (fun f cdv A outer s H vs Q E hr h => ?_)
  · obtain ⟨_, _, rfl, _⟩ := h
    rfl
  · obtain ⟨n, m, rfl, hn, hm1, hm5, hm2, q1, q2⟩ := h
    have c_exact_root : Kl P w K mg base (0 + 1) "exact_root" (fun _ _ _ _ => False) := Kl.by_body D sc_exact_root (fun _ _ _ _ h => h.elim) (fun _ _ _ _ _ _ _ _ _ _ h => h.elim)
    have hu1 := hu_of hr
    refine ⟨_, (pss_cons (ps_if (pt_cmpR op_lt (pv 0) pe_int (nomark _)) (pss_cons (ps_if (pt_cmpR op_eq (pe_op op_mod (pv 1) pe_int) pe_int (nomark _)) (pss_one (ps_ret pe_non)) pss_nil)
      (pss_cons (ps_set (i := 2) nd rfl (by first | exact Or.inl rfl | exact Or.inr rfl) (pe_k c_exact_root  hr (by decide) (by rfl) (pa_cons (pe_un un_neg (pv 0)) (pa_cons (pv 1) pa_nil))))
      (pss_one (ps_ret (pe_ifExp (pt_cmpR op_isN (pv 2) pe_non (nomark _)) pe_non (pe_un un_neg (pv 2))))))) pss_nil)
      (pss_cons (ps_set (i := 2) nd rfl (by first | exact Or.inl rfl | exact Or.inr rfl) (pe_k c_root_of  hr (by decide) (by rfl) (pa_cons (pv 0) (pa_cons (pv 1) pa_nil))))
      (pss_one (ps_ret (pe_ifExp (pt_cmpR op_eq (pe_k c_power  hr (by decide) (by rfl) (pa_cons (pv 2) (pa_cons (pv 1) pa_nil))) (pv 0) (nomark _)) (pv 2) pe_non))))), ?_⟩
    refine ⟨_, rfl, n, 0, rfl, rfl, _, rfl, ?_⟩
    by_cases hn0 : n < 0
    · refine iteY (by simpa using hn0) ?_
      refine ⟨_, rfl, _, _, rfl, rfl, (by show (0 : Int) < 2; decide), rfl, _, rfl, ?_⟩
      rw [dec_int]
      refine iteY (by simp; omega) ?_
      exact q2 (fun r hr' h => by have : 0 ≤ r ^ (m + 1) := Int.pow_nonneg hr'; omega)
    · refine iteN (by simpa using hn0) ?_
      refine ⟨_, rfl, _, rfl, n, m, rfl, by omega, hn, hm1, hm5, fun r r0 rB rle rmax => ?_⟩
      refine ⟨_, rfl, _, rfl, r, (m : Int) + 1, rfl, by omega, by omega, rB, _, rfl, rfl, _, rfl, ?_⟩
      rw [dec_int]
      have e : ((m : Int) + 1).toNat = m + 1 := by omega
      rw [e]
      by_cases hh : r ^ (m + 1) = n
      · refine iteY (by simp [hh]) ?_
        exact ⟨_, rfl, q1 r r0 rB hh⟩
      · refine iteN (by simp [hh]) ?_
        refine q2 (fun s hs h => hh ?_)
        have h1 := rmax s hs (by omega)
        have h2 := ipow_le hs h1 (m + 1)
        omega
/-! ### root_of_fraction -/
def sp_root_of_fraction (K : PySem.W.Frag) : Sp := fun vs H Q _ => ∃ (f : Addr) (a : Rat) (m : Nat), vs = [.ref f, .int ((m : Int) + 1)] ∧ SqT K H f (fq a) ∧ RB 200 a ∧ a ≠ 0 ∧ 1 ≤ m ∧ m ≤ 5 ∧ m % 2 = 1 ∧ (∀ r t, 0 < r → r ^ (m + 1) = a → H t = none → Q (.ref t) (upd H t (.tup (fq r)))) ∧ ((∀ r, 0 < r → r ^ (m + 1) ≠ a) → Q .non H)
abbrev s_root_of_fraction : Stmt := topS 17
theorem sc_root_of_fraction : FnScope ["f", "k", "n", "d"] ["f", "k"] (defScope s_root_of_fraction) := ⟨rfl, rfl, rfl, by decide +kernel, rfl, by decide +kernel, by decide +kernel⟩
theorem k_root_of_fraction (T : Tx K mg) (D : Df K mg "root_of_fraction" s_root_of_fraction ["f", "k"]) (c_exact_root : Kl P w K mg base 3 "exact_root" (sp_exact_root K)) : Kl P w K mg base 4 "root_of_fraction" (sp_root_of_fraction K) := by
  have nd := sc_root_of_fraction.nd
  refine Kl.by_body D sc_root_of_fraction (fun vs H Q E h => ?_) (fun f cdv A outer s H vs Q E hr h => ?_)
  · obtain ⟨_, _, _, rfl, _⟩ := h
    rfl
  · obtain ⟨f, a, m, rfl, hf, ha, hz, hm1, hm5, hm2, q1, q2⟩ := h
    have hu1 := hu_of hr
    refine ⟨_, (pss_cons (ps_par (i := 2) (j := 3) (by rfl) nd rfl rfl (by decide) rfl rfl (pa_cons (pe_k c_exact_root  hr (by decide) (by rfl) (pa_cons (pe_ix ix_tup (pv 0) pe_int (fun _ _ => rfl)) (pa_cons (pv 1) pa_nil))) (pa_cons (pe_k c_exact_root  hr (by decide) (by rfl) (pa_cons (pe_ix ix_tup (pv 0) pe_int (fun _ _ => rfl)) (pa_cons (pv 1) pa_nil))) pa_nil)) (by rfl))
      (pss_one (ps_ret (pe_ifExp (PW.pt (pw_or (pt_cmpR op_isN (pv 2) pe_non (nomark _)) (pw_or1 (pt_cmpR op_isN (pv 3) pe_non (nomark _))))) pe_non (pe_tup (pa_cons (pv 2) (pa_cons (pv 3) pa_nil))))))), ?_⟩
    refine ⟨.ref f, rfl, f, _, 0, .int a.num, rfl, rfl, hf, rfl, _, rfl, a.num, m, rfl, ha.n, hm1, hm5, hm2, ?A, ?B⟩
    case A =>
      intro x x0 xB xe
      refine ⟨.ref f, rfl, f, _, 1, .int (a.den : Int), rfl, rfl, hf, rfl, _, rfl, (a.den : Int), m, rfl, ha.d, hm1, hm5, hm2, fun y y0 yB ye => ?_, fun no => ?_⟩
      · refine ⟨_, _, rfl, ?_⟩
        refine ⟨_, rfl, rfl, _, rfl, iteF ?_⟩
        refine ⟨_, rfl, rfl, _, rfl, iteF ?_⟩
        refine ⟨_, rfl, _, rfl, (by show 2 ≤ sizeLine; decide), fun t nt => ?_⟩
        have hx : 0 < x := by
          rcases Int.lt_or_eq_of_le x0 with z | z
          · exact z
          · subst z
            rw [Int.pow_succ, Int.mul_zero] at xe
            exact absurd xe.symm (num_ne hz)
        have hy : 0 < y := by
          rcases Int.lt_or_eq_of_le y0 with z | z
          · exact z
          · subst z
            rw [Int.pow_succ, Int.mul_zero] at ye
            exact absurd ye.symm (den_ne a)
        obtain ⟨r, r0, re, rn, rd⟩ := rootQ (k := m + 1) (by omega) hx hy xe ye
        have := q1 r t r0 re nt
        unfold fq at this
        rw [rn, rd] at this
        exact this
      · refine ⟨_, _, rfl, ?_⟩
        refine ⟨_, rfl, rfl, _, rfl, iteF ?_⟩
        refine ⟨_, rfl, rfl, _, rfl, iteT ?_⟩
        refine q2 (fun r r0 re => no (r.den : Int) (by omega) ?_)
        rw [← Int.natCast_pow, ← dpow, re]
    case B =>
      intro no
      have done : Q .non H := q2 (fun r r0 re => no r.num (Int.le_of_lt (num_pos r0)) (by rw [← npow, re]))
      refine ⟨.ref f, rfl, f, _, 1, .int (a.den : Int), rfl, rfl, hf, rfl, _, rfl, (a.den : Int), m, rfl, ha.d, hm1, hm5, hm2, fun y y0 yB ye => ?_, fun no2 => ?_⟩
      · refine ⟨_, _, rfl, ?_⟩
        refine ⟨_, rfl, rfl, _, rfl, iteT ?_⟩
        exact done
      · refine ⟨_, _, rfl, ?_⟩
        refine ⟨_, rfl, rfl, _, rfl, iteT ?_⟩
        exact done
/-! ### scale_between -/
def NZ (c : Cv) : Prop := c.c4 ≠ 0 ∨ c.c6 ≠ 0
def UU (c e : Cv) (u : Rat) : Prop := U c.c4 c.c6 e.c4 e.c6 u
def sp_scale_between (K : PySem.W.Frag) : Sp := fun vs H Q _ => ∃ (p o : Addr) (c e : Cv), vs = [.ref p, .ref o] ∧ SqT K H p c.tup ∧ SqT K H o e.tup ∧ c.Sm ∧ e.Sm ∧ NZ c ∧ NZ e ∧ (∀ u H' t, UU c e u → RB 160 u → Same H H' → H t = none → H' t = some (.tup (fq u)) → Q (.ref t) H') ∧ (∀ H', (∀ u, ¬ UU c e u) → Same H H' → Q .non H')
abbrev s_scale_between : Stmt := topS 19
theorem sc_scale_between : FnScope ["curve", "other", "_", "c4", "c6", "d4", "d6", "u", "n", "d"] ["curve", "other"] (defScope s_scale_between) := ⟨rfl, rfl, rfl, by decide +kernel, rfl, by decide +kernel, by decide +kernel⟩
theorem k_scale_between (T : Tx K mg) (D : Df K mg "scale_between" s_scale_between ["curve", "other"]) (c_numbers_of : Kl P w K mg base 2 "numbers_of" (sp_numbers_of K)) (c_root_of_fraction : Kl P w K mg base 4 "root_of_fraction" (sp_root_of_fraction K)) (c_lowest : Kl P w K mg base 1 "lowest" (sp_lowest K)) : Kl P w K mg base 5 "scale_between" (sp_scale_between K) := by
  have nd := sc_scale_between.nd
  refine Kl.by_body D sc_scale_between (fun vs H Q E h => ?_) (fun f cdv A outer s H vs Q E hr h => ?_)
  · obtain ⟨_, _, _, _, rfl, _⟩ := h
    rfl
  · obtain ⟨p, o, c, e, rfl, hp, ho, hc, he, nc, ne, q1, q2⟩ := h
    have hu1 := hu_of hr
    refine ⟨_, (pss_cons (ps_asg (pe_k c_numbers_of  hr (by decide) (by rfl) (pa_cons (pv 0) pa_nil)) (pg_tup rfl (pgs_cons (pg_name (i := 2) nd rfl (by first | exact Or.inl rfl | exact Or.inr rfl)) (pgs_cons (pg_name (i := 2) nd rfl (by first | exact Or.inl rfl | exact Or.inr rfl)) (pgs_cons (pg_name (i := 2) nd rfl (by first | exact Or.inl rfl | exact Or.inr rfl)) (pgs_cons (pg_name (i := 2) nd rfl (by first | exact Or.inl rfl | exact Or.inr rfl)) (pgs_cons (pg_name (i := 3) nd rfl (by first | exact Or.inl rfl | exact Or.inr rfl)) (pgs_cons (pg_name (i := 4) nd rfl (by first | exact Or.inl rfl | exact Or.inr rfl)) (pgs_cons (pg_name (i := 2) nd rfl (by first | exact Or.inl rfl | exact Or.inr rfl)) pgs_nil)))))))))
      (pss_cons (ps_asg (pe_k c_numbers_of  hr (by decide) (by rfl) (pa_cons (pv 1) pa_nil)) (pg_tup rfl (pgs_cons (pg_name (i := 2) nd rfl (by first | exact Or.inl rfl | exact Or.inr rfl)) (pgs_cons (pg_name (i := 2) nd rfl (by first | exact Or.inl rfl | exact Or.inr rfl)) (pgs_cons (pg_name (i := 2) nd rfl (by first | exact Or.inl rfl | exact Or.inr rfl)) (pgs_cons (pg_name (i := 2) nd rfl (by first | exact Or.inl rfl | exact Or.inr rfl)) (pgs_cons (pg_name (i := 5) nd rfl (by first | exact Or.inl rfl | exact Or.inr rfl)) (pgs_cons (pg_name (i := 6) nd rfl (by first | exact Or.inl rfl | exact Or.inr rfl)) (pgs_cons (pg_name (i := 2) nd rfl (by first | exact Or.inl rfl | exact Or.inr rfl)) pgs_nil)))))))))
      (pss_cons (ps_if (PW.pt (pw_or (pt_cmpR op_ne (pe_cmpR op_eq (pv 3) pe_int (nomark _)) (pe_cmpR op_eq (pv 5) pe_int (nomark _)) (nomark _)) (pw_or1 (pt_cmpR op_ne (pe_cmpR op_eq (pv 4) pe_int (nomark _)) (pe_cmpR op_eq (pv 6) pe_int (nomark _)) (nomark _))))) (pss_one (ps_ret pe_non)) pss_nil)
      (pss_cons (ps_if (pt_cmpR op_eq (pv 3) pe_int (nomark _)) (pss_one (ps_ret (pe_k c_root_of_fraction  hr (by decide) (by rfl) (pa_cons (pe_k c_lowest  hr (by decide) (by rfl) (pa_cons (pv 4) (pa_cons (pv 6) pa_nil))) (pa_cons pe_int pa_nil))))) pss_nil)
      (pss_cons (ps_if (pt_cmpR op_eq (pv 4) pe_int (nomark _)) (pss_one (ps_ret (pe_k c_root_of_fraction  hr (by decide) (by rfl) (pa_cons (pe_k c_lowest  hr (by decide) (by rfl) (pa_cons (pv 3) (pa_cons (pv 5) pa_nil))) (pa_cons pe_int pa_nil))))) pss_nil)
      (pss_cons (ps_set (i := 7) nd rfl (by first | exact Or.inl rfl | exact Or.inr rfl) (pe_k c_root_of_fraction  hr (by decide) (by rfl) (pa_cons (pe_k c_lowest  hr (by decide) (by rfl) (pa_cons (pe_op op_mulW (pv 4) (pv 5)) (pa_cons (pe_op op_mulW (pv 6) (pv 3)) pa_nil))) (pa_cons pe_int pa_nil))))
      (pss_cons (ps_if (pt_cmpR op_isN (pv 7) pe_non (nomark _)) (pss_one (ps_ret pe_non)) pss_nil)
      (pss_cons (ps_par (i := 8) (j := 9) (by rfl) nd rfl rfl (by decide) rfl rfl (pa_cons (pe_op op_mulW (pe_ix ix_tup (pv 7) pe_int (fun _ _ => rfl)) (pe_ix ix_tup (pv 7) pe_int (fun _ _ => rfl))) (pa_cons (pe_op op_mulW (pe_ix ix_tup (pv 7) pe_int (fun _ _ => rfl)) (pe_ix ix_tup (pv 7) pe_int (fun _ _ => rfl))) pa_nil)) (by rfl))
      (pss_one (ps_ret (pe_ifExp (pt_cmpR op_eq (pe_op op_mulW (pe_op op_mulW (pv 8) (pv 8)) (pv 5)) (pe_op op_mulW (pe_op op_mulW (pv 9) (pv 9)) (pv 3)) (nomark _)) (pv 7) pe_non))))))))))), ?_⟩
    refine ⟨.ref p, rfl, p, c, rfl, hp, hc, fun t nt => ?_⟩
    have s1 := Same.new (H := H) (p := t) (o := .tup c.nums) nt
    have g1 : upd H t (.tup c.nums) t = some (.tup c.nums) := upd_same
    generalize upd H t (.tup c.nums) = H1 at s1 g1 ⊢
    refine ⟨t, _, rfl, tup_of g1, rfl, _, _, rfl, _, _, rfl, _, _, rfl, _, _, rfl, _, _, rfl, _, _, rfl, _, _, rfl, rfl, ?_⟩
    first | refine sigN [some (.ref p), some (.ref o), some (.int (c.disc)), some (.int (c.c4)), some (.int (c.c6)), none, none, none, none, none] (by rfl) ?_ | refine sig [some (.ref p), some (.ref o), some (.int (c.disc)), some (.int (c.c4)), some (.int (c.c6)), none, none, none, none, none] (by rfl) ?_
    refine ⟨.ref o, rfl, o, e, rfl, Same.tup s1 ho, he, fun t2 nt2 => ?_⟩
    have s2 := Same.new (H := H1) (p := t2) (o := .tup e.nums) nt2
    have g2 : upd H1 t2 (.tup e.nums) t2 = some (.tup e.nums) := upd_same
    generalize upd H1 t2 (.tup e.nums) = H2 at s2 g2 ⊢
    refine ⟨t2, _, rfl, tup_of g2, rfl, _, _, rfl, _, _, rfl, _, _, rfl, _, _, rfl, _, _, rfl, _, _, rfl, _, _, rfl, rfl, ?_⟩
    first | refine sigN [some (.ref p), some (.ref o), some (.int (e.disc)), some (.int (c.c4)), some (.int (c.c6)), some (.int (e.c4)), some (.int (e.c6)), none, none, none] (by rfl) ?_ | refine sig [some (.ref p), some (.ref o), some (.int (e.disc)), some (.int (c.c4)), some (.int (c.c6)), some (.int (e.c4)), some (.int (e.c6)), none, none, none] (by rfl) ?_
    have sA : Same H H2 := s1.trans s2
    clear s1 s2 g1 g2 nt nt2
    have c4B := hc.c4
    have e4B := he.c4
    have c6B := hc.c6
    have e6B := he.c6
    have eb : ∀ x y : Int, (!decide (V.bl (decide (V.int x = V.int 0)) = V.bl (decide (V.int y = V.int 0)))) = decide (¬ (x = 0 ↔ y = 0)) := fun x y => by
      rw [Bool.eq_iff_iff]
      simp
    refine ⟨_, rfl, rfl, _, rfl, rfl, rfl, _, rfl, ?_⟩
    rw [eb]
    by_cases z4 : c.c4 = 0 ↔ e.c4 = 0
    case neg =>
      refine iteY (decide_eq_true z4) ?_
      exact q2 _ (fun u h => z4 (U.z4 h)) sA
    refine iteN (by simpa using z4) ?_
    refine ⟨_, rfl, rfl, _, rfl, rfl, rfl, _, rfl, ?_⟩
    rw [eb]
    by_cases z6 : c.c6 = 0 ↔ e.c6 = 0
    case neg =>
      refine iteY (decide_eq_true z6) ?_
      exact q2 _ (fun u h => z6 (U.z6 h)) sA
    refine iteN (by simpa using z6) ?_
    refine ⟨_, rfl, rfl, _, rfl, ?_⟩
    rw [dec_int]
    by_cases y4 : c.c4 = 0
    · refine iteY (by simpa using y4) ?_
      have y4e : e.c4 = 0 := z4.mp y4
      have y6 : c.c6 ≠ 0 := nc.resolve_left (fun h => h y4)
      have y6e : e.c6 ≠ 0 := fun h => y6 (z6.mpr h)
      refine ⟨_, rfl, _, rfl, c.c6, e.c6, rfl, y6e, c6B.up (by decide), e6B.up (by decide), fun f nf => ?_⟩
      have s3 := Same.new (H := H2) (p := f) (o := .tup (fq (Rat.divInt c.c6 e.c6))) nf
      have g3 : upd H2 f (.tup (fq (Rat.divInt c.c6 e.c6))) f = some (.tup (fq (Rat.divInt c.c6 e.c6))) := upd_same
      generalize upd H2 f (.tup (fq (Rat.divInt c.c6 e.c6))) = H3 at s3 g3 ⊢
      refine ⟨f, _, 5, rfl, tup_of g3, RB.of y6e (c6B.up (by decide)) (e6B.up (by decide)), div_ne y6 y6e, by decide, by decide, by decide, fun r t r0 re nt => ?_, fun no => ?_⟩
      · have hU : UU c e r := by
          unfold UU
          rw [y4, y4e]
          exact U.of6 y6e r0 re
        refine q1 r _ t hU (RB.root (k := 6) (by decide) ?_) (Same.put (sA.trans s3) ((sA.trans s3).free nt)) ((sA.trans s3).free nt) upd_same
        rw [re]
        exact RB.of y6e (c6B.up (by decide)) (e6B.up (by decide))
      · exact q2 _ (fun u h => no u h.1 (U.p6 y6e h)) (sA.trans s3)
    refine iteN (by simpa using y4) ?_
    have y4e : e.c4 ≠ 0 := fun h => y4 (z4.mpr h)
    refine ⟨_, rfl, rfl, _, rfl, ?_⟩
    rw [dec_int]
    by_cases y6 : c.c6 = 0
    · refine iteY (by simpa using y6) ?_
      have y6e : e.c6 = 0 := z6.mp y6
      refine ⟨_, rfl, _, rfl, c.c4, e.c4, rfl, y4e, c4B.up (by decide), e4B.up (by decide), fun f nf => ?_⟩
      have s3 := Same.new (H := H2) (p := f) (o := .tup (fq (Rat.divInt c.c4 e.c4))) nf
      have g3 : upd H2 f (.tup (fq (Rat.divInt c.c4 e.c4))) f = some (.tup (fq (Rat.divInt c.c4 e.c4))) := upd_same
      generalize upd H2 f (.tup (fq (Rat.divInt c.c4 e.c4))) = H3 at s3 g3 ⊢
      refine ⟨f, _, 3, rfl, tup_of g3, RB.of y4e (c4B.up (by decide)) (e4B.up (by decide)), div_ne y4 y4e, by decide, by decide, by decide, fun r t r0 re nt => ?_, fun no => ?_⟩
      · have hU : UU c e r := by
          unfold UU
          rw [y6, y6e]
          exact U.of4 y4e r0 re
        refine q1 r _ t hU (RB.root (k := 4) (by decide) ?_) (Same.put (sA.trans s3) ((sA.trans s3).free nt)) ((sA.trans s3).free nt) upd_same
        rw [re]
        exact RB.of y4e (c4B.up (by decide)) (e4B.up (by decide))
      · exact q2 _ (fun u h => no u h.1 (U.p4 y4e h)) (sA.trans s3)
    refine iteN (by simpa using y6) ?_
    have y6e : e.c6 ≠ 0 := fun h => y6 (z6.mpr h)
    have hm1 : c.c6 * e.c4 ≠ 0 := mul_ne y6 y4e
    have hm2 : e.c6 * c.c4 ≠ 0 := mul_ne y6e y4
    have bm1 : B 160 (c.c6 * e.c4) := (c6B.mul e4B).up (by decide)
    have bm2 : B 160 (e.c6 * c.c4) := (e6B.mul c4B).up (by decide)
    refine ⟨_, rfl, _, rfl, _, _, rfl, rfl, c6B.mulW e4B (by decide), _, rfl, _, rfl, _, _, rfl, rfl, e6B.mulW c4B (by decide), _, _, rfl, hm2, bm1.up (by decide), bm2.up (by decide), fun f nf => ?_⟩
    have s3 := Same.new (H := H2) (p := f) (o := .tup (fq (Rat.divInt (c.c6 * e.c4) (e.c6 * c.c4)))) nf
    have g3 : upd H2 f (.tup (fq (Rat.divInt (c.c6 * e.c4) (e.c6 * c.c4)))) f = some (.tup (fq (Rat.divInt (c.c6 * e.c4) (e.c6 * c.c4)))) := upd_same
    generalize upd H2 f (.tup (fq (Rat.divInt (c.c6 * e.c4) (e.c6 * c.c4)))) = H3 at s3 g3 ⊢
    have sB := sA.trans s3
    refine ⟨f, _, 1, rfl, tup_of g3, RB.of hm2 (bm1.up (by decide)) (bm2.up (by decide)), div_ne hm1 hm2, by decide, by decide, by decide, fun u t u0 ue nt => ?_, fun no => ?_⟩
    · skip
      have s4 := Same.new (H := H3) (p := t) (o := .tup (fq u)) nt
      have g4 : upd H3 t (.tup (fq u)) t = some (.tup (fq u)) := upd_same
      generalize upd H3 t (.tup (fq u)) = H4 at s4 g4 ⊢
      have uB : RB 160 u := RB.root (k := 2) (by decide) (by rw [ue]; exact RB.of hm2 bm1 bm2)
      have hk := U.of2 y4 y4e y6e u0 ue
      refine ⟨_, rfl, rfl, _, rfl, iteF ?_⟩
      refine ⟨.ref t, rfl, t, _, 0, .int u.num, rfl, rfl, tup_of g4, rfl, .ref t, rfl, t, _, 0, .int u.num, rfl, rfl, tup_of g4, rfl, _, _, rfl, rfl, uB.n.mulW uB.n (by decide), .ref t, rfl, t, _, 1, .int (u.den : Int), rfl, rfl, tup_of g4, rfl, .ref t, rfl, t, _, 1, .int (u.den : Int), rfl, rfl, tup_of g4, rfl, _, _, rfl, rfl, uB.d.mulW uB.d (by decide), _, _, rfl, ?_⟩
      have bn := uB.n.mul uB.n
      have bd := uB.d.mul uB.d
      refine ⟨_, rfl, _, rfl, _, _, rfl, rfl, bn.mulW bn (by decide), _, rfl, _, _, rfl, rfl, (bn.mul bn).mulW e4B (by decide), _, rfl, _, rfl, _, _, rfl, rfl, bd.mulW bd (by decide), _, rfl, _, _, rfl, rfl, (bd.mul bd).mulW c4B (by decide), rfl, _, rfl, ?_⟩
      rw [dec_int]
      by_cases hh : u.num * u.num * (u.num * u.num) * e.c4 = (u.den : Int) * u.den * (u.den * u.den) * c.c4
      · refine iteY (by simpa using hh) ?_
        exact ⟨_, rfl, q1 u _ t (hk.mpr hh) uB (sB.trans s4) (sB.free nt) g4⟩
      · refine iteN (by simpa using hh) ?_
        refine q2 _ (fun v hv => hh ?_) (sB.trans s4)
        have e2 : v ^ 2 = u ^ 2 := by rw [U.p2 y4 y6e hv, ue]
        have e3 : v = u := qpow_inj (by decide) hv.1 u0 e2
        rw [e3] at hv
        exact hk.mp hv
    · refine ⟨_, rfl, rfl, _, rfl, iteT ?_⟩
      exact q2 _ (fun u h => no u h.1 (U.p2 y4 y6e h)) sB
end
end K07
set_option Elab.async false
set_option linter.all false
set_option maxRecDepth 100000
set_option maxHeartbeats 4000000
namespace K07
open PySem PySem.Spec PyProof.Rows L2 Gd QM
def Cv.ints (c : Cv) : List Int := [c.a1, c.a2, c.a3, c.a4, c.a6]
theorem Cv.tup_ints (c : Cv) : c.tup = c.ints.map V.int := rfl
/-! the change that u tells -/
def cS (c e : Cv) (u : Rat) : Rat := (u * (e.a1 : Rat) - (c.a1 : Rat)) / 2
def cR (c e : Cv) (u : Rat) : Rat := (u * u * (e.a2 : Rat) - (c.a2 : Rat) + cS c e u * (c.a1 : Rat) + cS c e u * cS c e u) / 3
def cT (c e : Cv) (u : Rat) : Rat := (u * u * u * (e.a3 : Rat) - (c.a3 : Rat) - cR c e u * (c.a1 : Rat)) / 2
theorem rb12 {n : Int} (h : B 12 n) : RB 12 (n : Rat) := RB.int h (by decide)
theorem two_ne : (2 : Rat) ≠ 0 := by decide
theorem three_ne : (3 : Rat) ≠ 0 := by decide
theorem rb_two : RB 2 (2 : Rat) := ⟨by decide, by decide⟩
theorem rb_three : RB 2 (3 : Rat) := ⟨by decide, by decide⟩
theorem rb_half : RB 2 (1 / 2 : Rat) := ⟨by decide +kernel, by decide +kernel⟩
theorem rb_third : RB 2 (1 / 3 : Rat) := ⟨by decide +kernel, by decide +kernel⟩
theorem rb_m1 : RB 1 (-1 : Rat) := ⟨by decide, by decide⟩
theorem fq_2 : [V.int 2, V.int 1] = fq 2 := rfl
theorem fq_3 : [V.int 3, V.int 1] = fq 3 := rfl
theorem fq_m1 : [V.int (-1), V.int 1] = fq (-1) := rfl
theorem cS_B {c e : Cv} {u : Rat} (hc : c.Sm) (he : e.Sm) (hu : RB 160 u) : RB 190 (cS c e u) := RB.up (RB.div two_ne (RB.sub (RB.mul hu (rb12 he.h1)) (rb12 hc.h1)) rb_two) (by decide)
theorem cR_B {c e : Cv} {u : Rat} (hc : c.Sm) (he : e.Sm) (hu : RB 160 u) : RB 940 (cR c e u) := RB.up (RB.div three_ne (RB.add (RB.add (RB.sub (RB.mul (RB.mul hu hu) (rb12 he.h2)) (rb12 hc.h2)) (RB.mul (cS_B hc he hu) (rb12 hc.h1))) (RB.mul (cS_B hc he hu) (cS_B hc he hu))) rb_three) (by decide)
section
variable {P : Program} {w : World} {K : PySem.W.Frag} {mg : Str → Option Value} {base : Heap}
local macro_rules | `(tactic| walk_at "mm") => `(tactic| (repeat (first | exact List.mem_cons_self | apply List.mem_cons_of_mem)))
theorem cT_B {c e : Cv} {u : Rat} (hc : c.Sm) (he : e.Sm) (hu : RB 160 u) : RB 1460 (cT c e u) := RB.up (RB.div two_ne (RB.sub (RB.sub (RB.mul (RB.mul (RB.mul hu hu) hu) (rb12 he.h3)) (rb12 hc.h3)) (RB.mul (cR_B hc he hu) (rb12 hc.h1))) rb_two) (by decide)
/-! ### change_with -/
def sp_change_with (K : PySem.W.Frag) : Sp := fun vs H Q _ => ∃ (p o v : Addr) (c e : Cv) (u : Rat), vs = [.ref p, .ref o, .ref v] ∧ SqT K H p c.tup ∧ SqT K H o e.tup ∧ c.Sm ∧ e.Sm ∧ SqT K H v (fq u) ∧ RB 160 u ∧
  ∀ H' t pr ps pt, Same H H' → H' t = some (.tup [.ref v, .ref pr, .ref ps, .ref pt]) → SqT K H' pr (fq (cR c e u)) → SqT K H' ps (fq (cS c e u)) → SqT K H' pt (fq (cT c e u)) → Q (.ref t) H'
abbrev s_change_with : Stmt := topS 20
theorem sc_change_with : FnScope ["curve", "other", "u", "a1", "a2", "a3", "_", "a", "d1", "d2", "d3", "uu", "s", "r", "t"] ["curve", "other", "u"] (defScope s_change_with) := ⟨rfl, rfl, rfl, by decide +kernel, rfl, by decide +kernel, by decide +kernel⟩
theorem k_change_with (T : Tx K mg) (D : Df K mg "change_with" s_change_with ["curve", "other", "u"]) (c_times : Kl P w K mg base 2 "times" (sp_times K)) (c_over : Kl P w K mg base 2 "over" (sp_over K)) (c_whole_fraction : Kl P w K mg base 1 "whole_fraction" (sp_whole_fraction K)) (c_less : Kl P w K mg base 2 "less" (sp_less K)) (c_total : Kl P w K mg base 3 "total" (sp_total K)) (c_five : Kl P w K mg base 1 "five" (sp_five K)) (c_product : Kl P w K mg base 3 "product" (sp_product K)) : Kl P w K mg base 4 "change_with" (sp_change_with K) := by
  have nd := sc_change_with.nd
  refine Kl.by_body D sc_change_with (fun vs H Q E h => ?_) (fun f cdv A outer s H vs Q E hr h => ?_)
  · obtain ⟨_, _, _, _, _, _, rfl, _⟩ := h
    rfl
  · obtain ⟨p, o, v, c, e, u, rfl, hp, ho, hc, he, hv, hu, q⟩ := h
    have hu1 := hu_of hr
    refine ⟨_, (pss_cons (ps_asg (pe_lc (own := [("a", 7)]) (g := gName 7) rfl nd (pi_tup (pe_k c_five  hr (by decide) (by rfl) (pa_cons (pv 0) pa_nil))) (blkOk_by (N := ["curve", "other", "u", "a1", "a2", "a3", "_", "a", "d1", "d2", "d3", "uu", "s", "r", "t"]) (sc := defScope s_change_with) (by decide +kernel)) (fun _ _ _ _ _ => (pg_name (i := 7) nd rfl (by first | exact Or.inl rfl | exact Or.inr rfl))) (fun _ _ _ _ _ => pts_nil) (fun _ _ _ _ _ => (pe_k c_whole_fraction  hr (by decide) (by rfl) (pa_cons (pv 7) pa_nil)))) (pg_lst rfl (pgs_cons (pg_name (i := 3) nd rfl (by first | exact Or.inl rfl | exact Or.inr rfl)) (pgs_cons (pg_name (i := 4) nd rfl (by first | exact Or.inl rfl | exact Or.inr rfl)) (pgs_cons (pg_name (i := 5) nd rfl (by first | exact Or.inl rfl | exact Or.inr rfl)) (pgs_cons (pg_name (i := 6) nd rfl (by first | exact Or.inl rfl | exact Or.inr rfl)) (pgs_cons (pg_name (i := 6) nd rfl (by first | exact Or.inl rfl | exact Or.inr rfl)) pgs_nil)))))))
      (pss_cons (ps_asg (pe_lc (own := [("a", 7)]) (g := gName 7) rfl nd (pi_tup (pe_k c_five  hr (by decide) (by rfl) (pa_cons (pv 1) pa_nil))) (blkOk_by (N := ["curve", "other", "u", "a1", "a2", "a3", "_", "a", "d1", "d2", "d3", "uu", "s", "r", "t"]) (sc := defScope s_change_with) (by decide +kernel)) (fun _ _ _ _ _ => (pg_name (i := 7) nd rfl (by first | exact Or.inl rfl | exact Or.inr rfl))) (fun _ _ _ _ _ => pts_nil) (fun _ _ _ _ _ => (pe_k c_whole_fraction  hr (by decide) (by rfl) (pa_cons (pv 7) pa_nil)))) (pg_lst rfl (pgs_cons (pg_name (i := 8) nd rfl (by first | exact Or.inl rfl | exact Or.inr rfl)) (pgs_cons (pg_name (i := 9) nd rfl (by first | exact Or.inl rfl | exact Or.inr rfl)) (pgs_cons (pg_name (i := 10) nd rfl (by first | exact Or.inl rfl | exact Or.inr rfl)) (pgs_cons (pg_name (i := 6) nd rfl (by first | exact Or.inl rfl | exact Or.inr rfl)) (pgs_cons (pg_name (i := 6) nd rfl (by first | exact Or.inl rfl | exact Or.inr rfl)) pgs_nil)))))))
      (pss_cons (ps_set (i := 11) nd rfl (by first | exact Or.inl rfl | exact Or.inr rfl) (pe_k c_times  hr (by decide) (by rfl) (pa_cons (pv 2) (pa_cons (pv 2) pa_nil))))
      (pss_cons (ps_set (i := 12) nd rfl (by first | exact Or.inl rfl | exact Or.inr rfl) (pe_k c_over  hr (by decide) (by rfl) (pa_cons (pe_k c_less  hr (by decide) (by rfl) (pa_cons (pe_k c_times  hr (by decide) (by rfl) (pa_cons (pv 2) (pa_cons (pv 8) pa_nil))) (pa_cons (pv 3) pa_nil))) (pa_cons (pe_tup (pa_cons pe_int (pa_cons pe_int pa_nil))) pa_nil))))
      (pss_cons (ps_set (i := 13) nd rfl (by first | exact Or.inl rfl | exact Or.inr rfl) (pe_k c_over  hr (by decide) (by rfl) (pa_cons (pe_k c_total  hr (by decide) (by rfl) (pa_cons (pe_lst (pa_cons (pe_k c_times  hr (by decide) (by rfl) (pa_cons (pv 11) (pa_cons (pv 9) pa_nil))) (pa_cons (pe_k c_product  hr (by decide) (by rfl) (pa_cons (pe_lst (pa_cons (pe_tup (pa_cons (pe_un un_neg pe_int) (pa_cons pe_int pa_nil))) (pa_cons (pv 4) pa_nil))) pa_nil)) (pa_cons (pe_k c_times  hr (by decide) (by rfl) (pa_cons (pv 12) (pa_cons (pv 3) pa_nil))) (pa_cons (pe_k c_times  hr (by decide) (by rfl) (pa_cons (pv 12) (pa_cons (pv 12) pa_nil))) pa_nil))))) pa_nil)) (pa_cons (pe_tup (pa_cons pe_int (pa_cons pe_int pa_nil))) pa_nil))))
      (pss_cons (ps_set (i := 14) nd rfl (by first | exact Or.inl rfl | exact Or.inr rfl) (pe_k c_over  hr (by decide) (by rfl) (pa_cons (pe_k c_less  hr (by decide) (by rfl) (pa_cons (pe_k c_less  hr (by decide) (by rfl) (pa_cons (pe_k c_product  hr (by decide) (by rfl) (pa_cons (pe_lst (pa_cons (pv 11) (pa_cons (pv 2) (pa_cons (pv 10) pa_nil)))) pa_nil)) (pa_cons (pv 5) pa_nil))) (pa_cons (pe_k c_times  hr (by decide) (by rfl) (pa_cons (pv 13) (pa_cons (pv 3) pa_nil))) pa_nil))) (pa_cons (pe_tup (pa_cons pe_int (pa_cons pe_int pa_nil))) pa_nil))))
      (pss_one (ps_ret (pe_tup (pa_cons (pv 2) (pa_cons (pv 13) (pa_cons (pv 12) (pa_cons (pv 14) pa_nil))))))))))))), ?_⟩
    refine ⟨.ref p, rfl, p, c, rfl, hp, p, rfl, ⟨_, hp⟩, fun D1 hD1 => ?_⟩
    refine lc_tup (K := K) (a := p) (xs := c.tup) (fun i H4 => Same H H4 ∧ FrD H4 D1 c.ints i) ⟨Same.new hD1, FrD.new⟩ (fun i H4 _ z => Same.tup z.1 hp) (fun i x H4 hi z => ?_) (fun H1 z => ?_)
    · obtain ⟨n, rfl, hn⟩ : ∃ n, x = .int n ∧ c.ints[i]? = some n := by
        rw [Cv.tup_ints, List.getElem?_map] at hi
        cases e : c.ints[i]? with
        | none =>
          rw [e] at hi
          cases hi
        | some y =>
          rw [e] at hi
          exact ⟨y, (Option.some.inj hi).symm, rfl⟩
      have hi5 : i < 5 := (List.getElem?_eq_some_iff.mp hn).1
      refine ⟨rfl, _, rfl, n, rfl, fun t nt => ?_⟩
      obtain ⟨acc, h1, h2, h3⟩ := FrD.push z.2 hn nt (by omega)
      exact ⟨acc, h1, h2, Same.put (Same.put z.1 (z.1.free nt)) hD1, h3⟩
    obtain ⟨s1, hF1⟩ := z
    obtain ⟨pa1, pa2, pa3, pa4, pa6, gD1, hpa1, hpa2, hpa3, hpa4, hpa6⟩ := hF1.five
    refine ⟨D1, _, rfl, lst_of gD1, rfl, _, _, rfl, _, _, rfl, _, _, rfl, _, _, rfl, _, _, rfl, rfl, ?_⟩
    have ho1 := Same.tup s1 ho
    have hv1 := Same.tup s1 hv
    first | refine sigN [some (.ref p), some (.ref o), some (.ref v), some (.ref pa1), some (.ref pa2), some (.ref pa3), some (.ref pa6), none, none, none, none, none, none, none, none] (by rfl) ?_ | refine sig [some (.ref p), some (.ref o), some (.ref v), some (.ref pa1), some (.ref pa2), some (.ref pa3), some (.ref pa6), none, none, none, none, none, none, none, none] (by rfl) ?_
    refine ⟨.ref o, rfl, o, e, rfl, ho1, o, rfl, ⟨_, ho1⟩, fun D2 hD2 => ?_⟩
    refine lc_tup (K := K) (a := o) (xs := e.tup) (fun i H4 => Same H1 H4 ∧ FrD H4 D2 e.ints i) ⟨Same.new hD2, FrD.new⟩ (fun i H4 _ z => Same.tup z.1 ho1) (fun i x H4 hi z => ?_) (fun H2 z => ?_)
    · obtain ⟨n, rfl, hn⟩ : ∃ n, x = .int n ∧ e.ints[i]? = some n := by
        rw [Cv.tup_ints, List.getElem?_map] at hi
        cases e : e.ints[i]? with
        | none =>
          rw [e] at hi
          cases hi
        | some y =>
          rw [e] at hi
          exact ⟨y, (Option.some.inj hi).symm, rfl⟩
      have hi5 : i < 5 := (List.getElem?_eq_some_iff.mp hn).1
      refine ⟨rfl, _, rfl, n, rfl, fun t nt => ?_⟩
      obtain ⟨acc, h1, h2, h3⟩ := FrD.push z.2 hn nt (by omega)
      exact ⟨acc, h1, h2, Same.put (Same.put z.1 (z.1.free nt)) hD2, h3⟩
    obtain ⟨s2, hF2⟩ := z
    obtain ⟨pd1, pd2, pd3, pd4, pd6, gD2, hpd1, hpd2, hpd3, hpd4, hpd6⟩ := hF2.five
    refine ⟨D2, _, rfl, lst_of gD2, rfl, _, _, rfl, _, _, rfl, _, _, rfl, _, _, rfl, _, _, rfl, rfl, ?_⟩
    first | refine sigN [some (.ref p), some (.ref o), some (.ref v), some (.ref pa1), some (.ref pa2), some (.ref pa3), some (.ref pd6), none, some (.ref pd1), some (.ref pd2), some (.ref pd3), none, none, none, none] (by rfl) ?_ | refine sig [some (.ref p), some (.ref o), some (.ref v), some (.ref pa1), some (.ref pa2), some (.ref pa3), some (.ref pd6), none, some (.ref pd1), some (.ref pd2), some (.ref pd3), none, none, none, none] (by rfl) ?_
    have sA := s1.trans s2
    have E0 : FrE K H2 [(v, u, 160), (pa1, (c.a1 : Rat), 12), (pa2, (c.a2 : Rat), 12), (pa3, (c.a3 : Rat), 12), (pd1, (e.a1 : Rat), 12), (pd2, (e.a2 : Rat), 12), (pd3, (e.a3 : Rat), 12)] :=
      FrE.add (FrE.add (FrE.add (FrE.add (FrE.add (FrE.add (FrE.add FrE.nil (tup_of hpd3) (rb12 he.h3)) (tup_of hpd2) (rb12 he.h2)) (tup_of hpd1) (rb12 he.h1)) (tup_of (s2 _ _ hpa3)) (rb12 hc.h3)) (tup_of (s2 _ _ hpa2)) (rb12 hc.h2)) (tup_of (s2 _ _ hpa1)) (rb12 hc.h1)) (Same.tup s2 hv1) hu
    clear s1 s2 hpa1 hpa2 hpa3 hpa4 hpa6 hpd1 hpd2 hpd3 hpd4 hpd6 gD1 gD2 hF1 hF2 ho1 hv1 hD1 hD2
    refine ⟨.ref v, rfl, .ref v, rfl, ?_⟩
    refine ⟨v, v, _, _, rfl, E0.get (by walk_at "mm"), E0.get (by walk_at "mm"), (E0.rb (p := v) (by walk_at "mm")).up (by decide), (E0.rb (p := v) (by walk_at "mm")).up (by decide), trivial, fun t1 nt1 => ?_⟩
    obtain ⟨H3, eH_, s3, E3⟩ := stepE E0 nt1 (RB.mul (E0.rb (p := v) (by walk_at "mm")) (E0.rb (p := v) (by walk_at "mm")))
    rw [eH_]
    clear eH_
    first | refine sigN [some (.ref p), some (.ref o), some (.ref v), some (.ref pa1), some (.ref pa2), some (.ref pa3), some (.ref pd6), none, some (.ref pd1), some (.ref pd2), some (.ref pd3), some (.ref t1), none, none, none] (by rfl) ?_ | refine sig [some (.ref p), some (.ref o), some (.ref v), some (.ref pa1), some (.ref pa2), some (.ref pa3), some (.ref pd6), none, some (.ref pd1), some (.ref pd2), some (.ref pd3), some (.ref t1), none, none, none] (by rfl) ?_
    refine ⟨.ref v, rfl, .ref pd1, rfl, ?_⟩
    refine ⟨v, pd1, _, _, rfl, E3.get (by walk_at "mm"), E3.get (by walk_at "mm"), (E3.rb (p := v) (by walk_at "mm")).up (by decide), (E3.rb (p := pd1) (by walk_at "mm")).up (by decide), trivial, fun t2 nt2 => ?_⟩
    obtain ⟨H4, eH_, s4, E4⟩ := stepE E3 nt2 (RB.mul (E3.rb (p := v) (by walk_at "mm")) (E3.rb (p := pd1) (by walk_at "mm")))
    rw [eH_]
    clear eH_
    refine ⟨.ref pa1, rfl, ?_⟩
    refine ⟨t2, pa1, _, _, rfl, E4.get (by walk_at "mm"), E4.get (by walk_at "mm"), (E4.rb (p := t2) (by walk_at "mm")).up (by decide), (E4.rb (p := pa1) (by walk_at "mm")).up (by decide), trivial, fun t3 nt3 => ?_⟩
    obtain ⟨H5, eH_, s5, E5⟩ := stepE E4 nt3 (RB.sub (E4.rb (p := t2) (by walk_at "mm")) (E4.rb (p := pa1) (by walk_at "mm")))
    rw [eH_]
    clear eH_
    refine ⟨(by show 2 ≤ sizeLine; decide), fun t4 nt4 => ?_⟩
    obtain ⟨H6, eH_, s6, E6⟩ := litE E5 nt4 fq_2 rb_two
    rw [eH_]
    clear eH_
    refine ⟨t3, t4, _, _, rfl, E6.get (by walk_at "mm"), E6.get (by walk_at "mm"), (E6.rb (p := t3) (by walk_at "mm")).up (by decide), (E6.rb (p := t4) (by walk_at "mm")).up (by decide), two_ne, fun t5 nt5 => ?_⟩
    obtain ⟨H7, eH_, s7, E7⟩ := stepE E6 nt5 (RB.div two_ne (E6.rb (p := t3) (by walk_at "mm")) (E6.rb (p := t4) (by walk_at "mm")))
    rw [eH_]
    clear eH_
    have E8 := E7.re (b := cS c e u) rfl (cS_B hc he hu)
    first | refine sigN [some (.ref p), some (.ref o), some (.ref v), some (.ref pa1), some (.ref pa2), some (.ref pa3), some (.ref pd6), none, some (.ref pd1), some (.ref pd2), some (.ref pd3), some (.ref t1), some (.ref t5), none, none] (by rfl) ?_ | refine sig [some (.ref p), some (.ref o), some (.ref v), some (.ref pa1), some (.ref pa2), some (.ref pa3), some (.ref pd6), none, some (.ref pd1), some (.ref pd2), some (.ref pd3), some (.ref t1), some (.ref t5), none, none] (by rfl) ?_
    refine ⟨.ref t1, rfl, .ref pd2, rfl, ?_⟩
    refine ⟨t1, pd2, _, _, rfl, E8.get (by walk_at "mm"), E8.get (by walk_at "mm"), (E8.rb (p := t1) (by walk_at "mm")).up (by decide), (E8.rb (p := pd2) (by walk_at "mm")).up (by decide), trivial, fun t6 nt6 => ?_⟩
    obtain ⟨H8, eH_, s8, E9⟩ := stepE E8 nt6 (RB.mul (E8.rb (p := t1) (by walk_at "mm")) (E8.rb (p := pd2) (by walk_at "mm")))
    rw [eH_]
    clear eH_
    refine ⟨_, rfl, ?_⟩
    refine ⟨(by show 2 ≤ sizeLine; decide), fun t7 nt7 => ?_⟩
    obtain ⟨H9, eH_, s9, E10⟩ := litE E9 nt7 fq_m1 rb_m1
    rw [eH_]
    clear eH_
    refine ⟨.ref pa2, rfl, (by show 2 ≤ sizeLine; decide), fun l1 nl1 => ?_⟩
    have E11 := E10.same (Same.new (o := .lst [.ref t7, .ref pa2]) nl1)
    refine ⟨l1, _, 12, rfl, lst_of upd_same, FrL.cons E11 (p := t7) (by walk_at "mm") (by decide) (FrL.cons E11 (p := pa2) (by walk_at "mm") (by decide) FrL.nil), (by show 2 * (12 + 1) ≤ 2900; decide), fun Ha t8 sa nt8 ht8 hb8 => ?_⟩
    have E12 := ((E11.same sa).add (tup_of ht8) hb8).re (b := -(c.a2 : Rat)) (by show 1 * (-1) * (c.a2 : Rat) = _; grind) (rb12 hc.h2).neg
    have sA1 := (Same.new (o := .lst [.ref t7, .ref pa2]) nl1).trans sa
    refine ⟨.ref t5, rfl, .ref pa1, rfl, ?_⟩
    refine ⟨t5, pa1, _, _, rfl, E12.get (by walk_at "mm"), E12.get (by walk_at "mm"), (E12.rb (p := t5) (by walk_at "mm")).up (by decide), (E12.rb (p := pa1) (by walk_at "mm")).up (by decide), trivial, fun t9 nt9 => ?_⟩
    obtain ⟨Hb, eH_, sb, E13⟩ := stepE E12 nt9 (RB.mul (E12.rb (p := t5) (by walk_at "mm")) (E12.rb (p := pa1) (by walk_at "mm")))
    rw [eH_]
    clear eH_
    refine ⟨.ref t5, rfl, .ref t5, rfl, ?_⟩
    refine ⟨t5, t5, _, _, rfl, E13.get (by walk_at "mm"), E13.get (by walk_at "mm"), (E13.rb (p := t5) (by walk_at "mm")).up (by decide), (E13.rb (p := t5) (by walk_at "mm")).up (by decide), trivial, fun t10 nt10 => ?_⟩
    obtain ⟨Hc, eH_, sc, E14⟩ := stepE E13 nt10 (RB.mul (E13.rb (p := t5) (by walk_at "mm")) (E13.rb (p := t5) (by walk_at "mm")))
    rw [eH_]
    clear eH_
    refine ⟨(by show 4 ≤ sizeLine; decide), fun l2 nl2 => ?_⟩
    have E15 := E14.same (Same.new (o := .lst [.ref t6, .ref t8, .ref t9, .ref t10]) nl2)
    refine ⟨l2, _, 380, rfl, lst_of upd_same, FrL.cons E15 (p := t6) (by walk_at "mm") (by decide) (FrL.cons E15 (p := t8) (by walk_at "mm") (by decide) (FrL.cons E15 (p := t9) (by walk_at "mm") (by decide) (FrL.cons E15 (p := t10) (by walk_at "mm") (by decide) FrL.nil))), (by show 4 * (380 + 1) ≤ 2900; decide), fun Hd t11 sd nt11 ht11 hb11 => ?_⟩
    have E16 := (E15.same sd).add (m := 1525) (tup_of ht11) hb11
    have sA2 := (Same.new (o := .lst [.ref t6, .ref t8, .ref t9, .ref t10]) nl2).trans sd
    refine ⟨(by show 2 ≤ sizeLine; decide), fun t12 nt12 => ?_⟩
    obtain ⟨He, eH_, se, E17⟩ := litE E16 nt12 fq_3 rb_three
    rw [eH_]
    clear eH_
    refine ⟨t11, t12, _, _, rfl, E17.get (by walk_at "mm"), E17.get (by walk_at "mm"), (E17.rb (p := t11) (by walk_at "mm")).up (by decide), (E17.rb (p := t12) (by walk_at "mm")).up (by decide), three_ne, fun t13 nt13 => ?_⟩
    obtain ⟨Hf, eH_, sf, E18⟩ := stepE E17 nt13 (RB.div three_ne (E17.rb (p := t11) (by walk_at "mm")) (E17.rb (p := t12) (by walk_at "mm")))
    rw [eH_]
    clear eH_
    have E19 := E18.re (b := cR c e u) (by
      show (0 + u * u * (e.a2 : Rat) + -(c.a2 : Rat) + cS c e u * (c.a1 : Rat) + cS c e u * cS c e u) / 3 = _
      unfold cR
      grind) (cR_B hc he hu)
    first | refine sigN [some (.ref p), some (.ref o), some (.ref v), some (.ref pa1), some (.ref pa2), some (.ref pa3), some (.ref pd6), none, some (.ref pd1), some (.ref pd2), some (.ref pd3), some (.ref t1), some (.ref t5), some (.ref t13), none] (by rfl) ?_ | refine sig [some (.ref p), some (.ref o), some (.ref v), some (.ref pa1), some (.ref pa2), some (.ref pa3), some (.ref pd6), none, some (.ref pd1), some (.ref pd2), some (.ref pd3), some (.ref t1), some (.ref t5), some (.ref t13), none] (by rfl) ?_
    refine ⟨.ref t1, rfl, .ref v, rfl, .ref pd3, rfl, (by show 3 ≤ sizeLine; decide), fun l3 nl3 => ?_⟩
    have E20 := E19.same (Same.new (o := .lst [.ref t1, .ref v, .ref pd3]) nl3)
    refine ⟨l3, _, 320, rfl, lst_of upd_same, FrL.cons E20 (p := t1) (by walk_at "mm") (by decide) (FrL.cons E20 (p := v) (by walk_at "mm") (by decide) (FrL.cons E20 (p := pd3) (by walk_at "mm") (by decide) FrL.nil)), (by show 3 * (320 + 1) ≤ 2900; decide), fun Hg t14 sg nt14 ht14 hb14 => ?_⟩
    have E21 := (E20.same sg).add (m := 964) (tup_of ht14) hb14
    have sA3 := (Same.new (o := .lst [.ref t1, .ref v, .ref pd3]) nl3).trans sg
    refine ⟨.ref pa3, rfl, ?_⟩
    refine ⟨t14, pa3, _, _, rfl, E21.get (by walk_at "mm"), E21.get (by walk_at "mm"), (E21.rb (p := t14) (by walk_at "mm")).up (by decide), (E21.rb (p := pa3) (by walk_at "mm")).up (by decide), trivial, fun t15 nt15 => ?_⟩
    obtain ⟨Hh, eH_, sh, E22⟩ := stepE E21 nt15 (RB.sub (E21.rb (p := t14) (by walk_at "mm")) (E21.rb (p := pa3) (by walk_at "mm")))
    rw [eH_]
    clear eH_
    refine ⟨.ref t13, rfl, .ref pa1, rfl, ?_⟩
    refine ⟨t13, pa1, _, _, rfl, E22.get (by walk_at "mm"), E22.get (by walk_at "mm"), (E22.rb (p := t13) (by walk_at "mm")).up (by decide), (E22.rb (p := pa1) (by walk_at "mm")).up (by decide), trivial, fun t16 nt16 => ?_⟩
    obtain ⟨Hi, eH_, si, E23⟩ := stepE E22 nt16 (RB.mul (E22.rb (p := t13) (by walk_at "mm")) (E22.rb (p := pa1) (by walk_at "mm")))
    rw [eH_]
    clear eH_
    refine ⟨t15, t16, _, _, rfl, E23.get (by walk_at "mm"), E23.get (by walk_at "mm"), (E23.rb (p := t15) (by walk_at "mm")).up (by decide), (E23.rb (p := t16) (by walk_at "mm")).up (by decide), trivial, fun t17 nt17 => ?_⟩
    obtain ⟨Hj, eH_, sj, E24⟩ := stepE E23 nt17 (RB.sub (E23.rb (p := t15) (by walk_at "mm")) (E23.rb (p := t16) (by walk_at "mm")))
    rw [eH_]
    clear eH_
    refine ⟨(by show 2 ≤ sizeLine; decide), fun t18 nt18 => ?_⟩
    obtain ⟨Hk, eH_, sk, E25⟩ := litE E24 nt18 fq_2 rb_two
    rw [eH_]
    clear eH_
    refine ⟨t17, t18, _, _, rfl, E25.get (by walk_at "mm"), E25.get (by walk_at "mm"), (E25.rb (p := t17) (by walk_at "mm")).up (by decide), (E25.rb (p := t18) (by walk_at "mm")).up (by decide), two_ne, fun t19 nt19 => ?_⟩
    obtain ⟨Hl, eH_, sl, E26⟩ := stepE E25 nt19 (RB.div two_ne (E25.rb (p := t17) (by walk_at "mm")) (E25.rb (p := t18) (by walk_at "mm")))
    rw [eH_]
    clear eH_
    have E27 := E26.re (b := cT c e u) (by
      show (1 * (u * u) * u * (e.a3 : Rat) - (c.a3 : Rat) - cR c e u * (c.a1 : Rat)) / 2 = _
      unfold cT
      grind) (cT_B hc he hu)
    first | refine sigN [some (.ref p), some (.ref o), some (.ref v), some (.ref pa1), some (.ref pa2), some (.ref pa3), some (.ref pd6), none, some (.ref pd1), some (.ref pd2), some (.ref pd3), some (.ref t1), some (.ref t5), some (.ref t13), some (.ref t19)] (by rfl) ?_ | refine sig [some (.ref p), some (.ref o), some (.ref v), some (.ref pa1), some (.ref pa2), some (.ref pa3), some (.ref pd6), none, some (.ref pd1), some (.ref pd2), some (.ref pd3), some (.ref t1), some (.ref t5), some (.ref t13), some (.ref t19)] (by rfl) ?_
    refine ⟨.ref v, rfl, .ref t13, rfl, .ref t5, rfl, .ref t19, rfl, (by show 4 ≤ sizeLine; decide), fun t20 n20 => ?_⟩
    have sZ := Same.new (H := Hl) (p := t20) (o := .tup [.ref v, .ref t13, .ref t5, .ref t19]) n20
    have E28 := E27.same sZ
    refine q _ t20 t13 t5 t19 (sA.trans (s3.trans (s4.trans (s5.trans (s6.trans (s7.trans (s8.trans (s9.trans (sA1.trans (sb.trans (sc.trans (sA2.trans (se.trans (sf.trans (sA3.trans (sh.trans (si.trans (sj.trans (sk.trans (sl.trans sZ)))))))))))))))))))) upd_same (E28.get (by walk_at "mm")) (E28.get (by walk_at "mm")) (E28.get (by walk_at "mm"))
/-! ### changes_between, are_alike -/
/-- the fractions of a change, as data -/
def dch (c e : Cv) (u : Rat) : PyData := .tuple [dq u, dq (cR c e u), dq (cS c e u), dq (cT c e u)]
def dboth (c e : Cv) (u : Rat) : PyData := .tuple [dch c e u, dch c e (-u)]
theorem dp_ch {K : PySem.W.Frag} {H : Hp} {t v pr ps pt : Addr} {c e : Cv} {u : Rat} (h : H t = some (.tup [.ref v, .ref pr, .ref ps, .ref pt])) (h1 : SqT K H v (fq u)) (h2 : SqT K H pr (fq (cR c e u))) (h3 : SqT K H ps (fq (cS c e u))) (h4 : SqT K H pt (fq (cT c e u))) : Dp K H (.ref t) (dch c e u) :=
  .tup (tup_of h) (.cons (dp_q h1) (.cons (dp_q h2) (.cons (dp_q h3) (.cons (dp_q h4) .nil))))
def spBoth (K : PySem.W.Frag) : Sp := fun vs H Q _ => ∃ (p o : Addr) (c e : Cv), vs = [.ref p, .ref o] ∧ SqT K H p c.tup ∧ SqT K H o e.tup ∧ c.Sm ∧ e.Sm ∧ NZ c ∧ NZ e ∧ (∀ u H' t, UU c e u → RB 160 u → Same H H' → Dp K H' (.ref t) (dboth c e u) → Q (.ref t) H') ∧ (∀ H' t, (∀ u, ¬ UU c e u) → Same H H' → Dp K H' (.ref t) (.tuple []) → Q (.ref t) H')
def sp_changes_between : PySem.W.Frag → Sp := spBoth
theorem fq_neg (u : Rat) : [V.int (-u.num), V.int (u.den : Int)] = fq (-u) := by
  unfold fq
  rw [Rat.neg_num, Rat.neg_den]
abbrev s_changes_between : Stmt := topS 21
theorem sc_changes_between : FnScope ["curve", "other", "u"] ["curve", "other"] (defScope s_changes_between) := ⟨rfl, rfl, rfl, by decide +kernel, rfl, by decide +kernel, by decide +kernel⟩
theorem k_changes_between (T : Tx K mg) (D : Df K mg "changes_between" s_changes_between ["curve", "other"]) (c_scale_between : Kl P w K mg base 5 "scale_between" (sp_scale_between K)) (c_change_with : Kl P w K mg base 4 "change_with" (sp_change_with K)) : Kl P w K mg base 6 "changes_between" (sp_changes_between K) := by
  have nd := sc_changes_between.nd
  refine Kl.by_body D sc_changes_between (fun vs H Q E h => ?_) (fun f cdv A outer s H vs Q E hr h => ?_)
  · obtain ⟨_, _, _, _, rfl, _⟩ := h
    rfl
  · obtain ⟨p, o, c, e, rfl, hp, ho, hc, he, nc, ne, q1, q2⟩ := h
    have hu1 := hu_of hr
    refine ⟨_, (pss_cons (ps_set (i := 2) nd rfl (by first | exact Or.inl rfl | exact Or.inr rfl) (pe_k c_scale_between  hr (by decide) (by rfl) (pa_cons (pv 0) (pa_cons (pv 1) pa_nil))))
      (pss_cons (ps_if (pt_cmpR op_isN (pv 2) pe_non (nomark _)) (pss_one (ps_ret (pe_tup pa_nil))) pss_nil)
      (pss_one (ps_ret (pe_tup (pa_cons (pe_k c_change_with  hr (by decide) (by rfl) (pa_cons (pv 0) (pa_cons (pv 1) (pa_cons (pv 2) pa_nil)))) (pa_cons (pe_k c_change_with  hr (by decide) (by rfl) (pa_cons (pv 0) (pa_cons (pv 1) (pa_cons (pe_tup (pa_cons (pe_un un_neg (pe_ix ix_tup (pv 2) pe_int (fun _ _ => rfl))) (pa_cons (pe_ix ix_tup (pv 2) pe_int (fun _ _ => rfl)) pa_nil))) pa_nil)))) pa_nil))))))), ?_⟩
    refine ⟨.ref p, rfl, .ref o, rfl, p, o, c, e, rfl, hp, ho, hc, he, nc, ne, fun u H1 t hu ub s1 nt gt => ?_, fun H1 no s1 => ?_⟩
    · refine ⟨_, rfl, rfl, _, rfl, iteF ?_⟩
      have hp1 := Same.tup s1 hp
      have ho1 := Same.tup s1 ho
      refine ⟨.ref p, rfl, .ref o, rfl, .ref t, rfl, p, o, t, c, e, u, rfl, hp1, ho1, hc, he, tup_of gt, ub, fun H2 a pr ps pt s2 ga h1 h2 h3 => ?_⟩
      refine ⟨.ref p, rfl, .ref o, rfl, .ref t, rfl, t, _, 0, .int u.num, rfl, rfl, tup_of (s2 _ _ gt), rfl, _, rfl, .ref t, rfl, t, _, 1, .int (u.den : Int), rfl, rfl, tup_of (s2 _ _ gt), rfl, (by show 2 ≤ sizeLine; decide), fun v nv => ?_⟩
      have sv := Same.new (H := H2) (p := v) (o := .tup [.int (-u.num), .int (u.den : Int)]) nv
      have gv : SqT K (upd H2 v (.tup [.int (-u.num), .int (u.den : Int)])) v (fq (-u)) := by
        rw [← fq_neg]
        exact tup_of upd_same
      refine ⟨p, o, v, c, e, -u, rfl, Same.tup (s2.trans sv) hp1, Same.tup (s2.trans sv) ho1, hc, he, gv, ub.neg, fun H3 b pr' ps' pt' s3 gb h1' h2' h3' => ?_⟩
      refine ⟨(by show 2 ≤ sizeLine; decide), fun z nz => ?_⟩
      have s4 := sv.trans s3
      have sz := Same.new (H := H3) (p := z) (o := .tup [.ref a, .ref b]) nz
      have s5 := s4.trans sz
      refine q1 u _ z hu ub (s1.trans (s2.trans s5)) (.tup (tup_of upd_same) (.cons (dp_ch (s5 _ _ ga) (Same.tup (s2.trans s5) (tup_of gt)) (Same.tup s5 h1) (Same.tup s5 h2) (Same.tup s5 h3)) (.cons (dp_ch (sz _ _ gb) (Same.tup (s3.trans sz) gv) (Same.tup sz h1') (Same.tup sz h2') (Same.tup sz h3')) .nil)))
    · refine ⟨_, rfl, rfl, _, rfl, iteT ?_⟩
      refine ⟨(by show 0 ≤ sizeLine; decide), fun z nz => ?_⟩
      exact q2 _ z no (s1.trans (Same.new nz)) (.tup (tup_of upd_same) .nil)
def sp_are_alike (K : PySem.W.Frag) : Sp := fun vs H Q _ => ∃ (p o : Addr) (c e : Cv), vs = [.ref p, .ref o] ∧ SqT K H p c.tup ∧ SqT K H o e.tup ∧ c.Sm ∧ e.Sm ∧ NZ c ∧ NZ e ∧ (∀ u H', UU c e u → Same H H' → Q (.bl true) H') ∧ (∀ H', (∀ u, ¬ UU c e u) → Same H H' → Q (.bl false) H')
abbrev s_are_alike : Stmt := topS 22
theorem sc_are_alike : FnScope ["curve", "other"] ["curve", "other"] (defScope s_are_alike) := ⟨rfl, rfl, rfl, by decide +kernel, rfl, by decide +kernel, by decide +kernel⟩
theorem k_are_alike (T : Tx K mg) (D : Df K mg "are_alike" s_are_alike ["curve", "other"]) (c_scale_between : Kl P w K mg base 5 "scale_between" (sp_scale_between K)) : Kl P w K mg base 6 "are_alike" (sp_are_alike K) := by
  have nd := sc_are_alike.nd
  refine Kl.by_body D sc_are_alike (fun vs H Q E h => ?_) (fun f cdv A outer s H vs Q E hr h => ?_)
  · obtain ⟨_, _, _, _, rfl, _⟩ := h
    rfl
  · obtain ⟨p, o, c, e, rfl, hp, ho, hc, he, nc, ne, q1, q2⟩ := h
    have hu1 := hu_of hr
    refine ⟨_, (pss_one (ps_ret (pe_cmpR op_notN (pe_k c_scale_between  hr (by decide) (by rfl) (pa_cons (pv 0) (pa_cons (pv 1) pa_nil))) pe_non (nomark _)))), ?_⟩
    refine ⟨.ref p, rfl, .ref o, rfl, p, o, c, e, rfl, hp, ho, hc, he, nc, ne, fun u H1 t hu ub s1 nt gt => ?_, fun H1 no s1 => ?_⟩
    · exact ⟨rfl, q1 u _ hu s1⟩
    · exact ⟨rfl, q2 _ no s1⟩
end
end K07
set_option Elab.async false
set_option linter.all false
set_option maxRecDepth 100000
set_option maxHeartbeats 4000000
namespace K07
open PySem PySem.Spec PyProof.Rows L2 Gd QM
local macro_rules | `(tactic| walk_at "bd") => `(tactic| (repeat (first | assumption | apply B.add | apply B.sub | apply B.mul | apply B.neg | exact B.lit (n := 8) (by decide))))
local macro_rules | `(tactic| walk_at "bu") => `(tactic| (apply B.up; walk_at "bd"; decide))
local macro_rules | `(tactic| walk_at "bnd") => `(tactic| (apply B.mulW; walk_at "bd"; decide))
local macro_rules | `(tactic| walk_at "pw") => `(tactic| exact B.up (n := 64) (by assumption) (by decide))
theorem abs_eq (i : Int) : (if i < 0 then -i else i) = (i.natAbs : Int) := by
  split <;> omega
section
variable {P : Program} {w : World} {K : PySem.W.Frag} {mg : Str → Option Value} {base : Heap}
/-! ### the law's common factor -/
def sp_law_common (K : PySem.W.Frag) : Sp := fun vs H Q _ => ∃ a b : Int, vs = [.int a, .int b] ∧ B 6200 a ∧ B 6200 b ∧ Q (.int ((Nat.gcd a.natAbs b.natAbs : Nat) : Int)) H
theorem gcd_turn {x y : Int} (h1 : 0 ≤ x) (h2 : 0 ≤ y) (h0 : y ≠ 0) : 0 ≤ x - x.fdiv y * y ∧ (x - x.fdiv y * y).natAbs < y.natAbs ∧ Nat.gcd y.natAbs (x - x.fdiv y * y).natAbs = Nat.gcd x.natAbs y.natAbs := by
  have e : x - x.fdiv y * y = x % y := by
    rw [Int.fdiv_eq_ediv_of_nonneg x h2, Int.emod_def, Int.mul_comm]
  have h3 : 0 ≤ x % y := Int.emod_nonneg x h0
  have h4 : x % y < y := Int.emod_lt_of_pos x (by omega)
  rw [e]
  refine ⟨h3, by omega, ?_⟩
  have e2 : (x % y).natAbs = x.natAbs % y.natAbs := by
    rw [Int.natAbs_emod_of_nonneg h1]
  rw [e2, Nat.gcd_comm y.natAbs, ← Nat.gcd_rec y.natAbs x.natAbs, Nat.gcd_comm]
abbrev s__law_common : Stmt := topS 28
theorem sc__law_common : FnScope ["a", "b"] ["a", "b"] (defScope s__law_common) := ⟨rfl, rfl, rfl, by decide +kernel, rfl, by decide +kernel, by decide +kernel⟩
theorem k_law_common (T : Tx K mg) (D : Df K mg "_law_common" s__law_common ["a", "b"])  : Kl P w K mg base 1 "_law_common" (sp_law_common K) := by
  have nd := sc__law_common.nd
  refine Kl.by_body D sc__law_common (fun vs H Q E h => ?_) (fun f cdv A outer s H vs Q E hr h => ?_)
  · obtain ⟨_, _, rfl, _⟩ := h
    rfl
  · obtain ⟨a, b, rfl, ha, hb, q⟩ := h
    have hu1 := hu_of hr
    refine ⟨_, (pss_cons (ps_par (i := 0) (j := 1) (by rfl) nd rfl rfl (by decide) rfl rfl (pa_cons (pe_callB call_abs (by rfl) T.abs (by decide +kernel) (pa_cons (pv 0) pa_nil)) (pa_cons (pe_callB call_abs (by rfl) T.abs (by decide +kernel) (pa_cons (pv 1) pa_nil)) pa_nil)) (by rfl))
      (pss_cons (ps_while PassesOwn.never (pt_cmpR op_ne (pv 1) pe_int (nomark _)) (pss_one (ps_par (i := 0) (j := 1) (by rfl) nd rfl rfl (by decide) rfl rfl (pa_cons (pv 1) (pa_cons (pe_op op_sub (pv 0) (pe_op op_mulW (pe_op op_fdivAny (pv 0) (pv 1)) (pv 1))) pa_nil)) (by rfl))))
      (pss_one (ps_ret (pv 0))))), ?_⟩
    refine ⟨_, rfl, a, rfl, _, rfl, b, rfl, _, _, rfl, ?_⟩
    rw [abs_eq, abs_eq]
    first | refine sigN [some (.int ((a.natAbs : Int))), some (.int ((b.natAbs : Int)))] (by rfl) ?_ | refine sig [some (.int ((a.natAbs : Int))), some (.int ((b.natAbs : Int)))] (by rfl) ?_
    have na : B 6200 (a.natAbs : Int) := by
      unfold B at *
      omega
    have nb : B 6200 (b.natAbs : Int) := by
      unfold B at *
      omega
    refine while_by (fun σ H2 => ∃ x y : Int, σ = [some (.int x), some (.int y)] ∧ H2 = H ∧ 0 ≤ x ∧ 0 ≤ y ∧ Nat.gcd x.natAbs y.natAbs = Nat.gcd a.natAbs b.natAbs ∧ B 6200 x ∧ B 6200 y)
      (fun σ _ => match σ with | [_, some (.int y)] => y.natAbs | _ => 0) ⟨_, _, rfl, rfl, by omega, by omega, by rw [Int.natAbs_natCast, Int.natAbs_natCast], na, nb⟩ ?_ ?_
    · rintro σ H2 ⟨x, y, rfl, rfl, h1, h2, h3, h4, h5⟩
      refine ⟨_, rfl, rfl, _, rfl, ?_⟩
      rw [dec_int]
      by_cases h0 : y = 0
      · subst h0
        refine iteN (by simp) ?_
        refine ⟨_, rfl, ?_⟩
        rw [← h3] at q
        have e : ((Nat.gcd x.natAbs (0 : Int).natAbs : Nat) : Int) = x := by
          rw [show (0 : Int).natAbs = 0 from rfl, Nat.gcd_zero_right]
          omega
        rw [e] at q
        exact q
      · refine iteY (by simp [h0]) ?_
        obtain ⟨g1, g2, g3⟩ := gcd_turn h1 h2 h0
        have d1 : B 6200 (x.fdiv y) := by
          rw [Int.fdiv_eq_ediv_of_nonneg x h2]
          have e1 : 0 ≤ x / y := Int.ediv_nonneg h1 h2
          have e2 : x / y ≤ x := Int.ediv_le_self y h1
          unfold B at *
          omega
        refine ⟨_, rfl, _, rfl, _, rfl, _, rfl, x, y, rfl, rfl, div_any h0 h5 (by decide), _, rfl, _, _, rfl, rfl, d1.mulW h5 (by decide), _, _, rfl, rfl, _, _, rfl, ?_⟩
        have g4 : B 6200 (x - x.fdiv y * y) := by
          unfold B at *
          omega
        exact ⟨⟨_, _, rfl, rfl, h2, g1, g3.trans h3, h5, g4⟩, g2⟩
    · rintro σ H2 Q1 Q2 i ⟨v, hv, hs, k, e, z⟩
      exact ⟨v, hv, hs, k, e, i _ _ z⟩
/-! ### cut -/
def sp_law_cut : PySem.W.Frag → Sp := spCut
abbrev s__law_cut : Stmt := topS 29
theorem sc__law_cut : FnScope ["n", "d", "part"] ["n", "d"] (defScope s__law_cut) := ⟨rfl, rfl, rfl, by decide +kernel, rfl, by decide +kernel, by decide +kernel⟩
theorem k_law_cut (T : Tx K mg) (D : Df K mg "_law_cut" s__law_cut ["n", "d"]) (c_law_common : Kl P w K mg base 1 "_law_common" (sp_law_common K)) : Kl P w K mg base 2 "_law_cut" (sp_law_cut K) := by
  have nd := sc__law_cut.nd
  refine Kl.by_body D sc__law_cut (fun vs H Q E h => ?_) (fun f cdv A outer s H vs Q E hr h => ?_)
  · obtain ⟨_, _, rfl, _⟩ := h
    rfl
  · obtain ⟨n, d, rfl, h0, hn, hd, q⟩ := h
    have hu1 := hu_of hr
    refine ⟨_, (pss_cons (ps_set (i := 2) nd rfl (by first | exact Or.inl rfl | exact Or.inr rfl) (pe_k c_law_common  hr (by decide) (by rfl) (pa_cons (pv 0) (pa_cons (pv 1) pa_nil))))
      (pss_cons (ps_set (i := 2) nd rfl (by first | exact Or.inl rfl | exact Or.inr rfl) (pe_ifExp (pt_cmpR op_gt (pv 1) pe_int (nomark _)) (pv 2) (pe_un un_neg (pv 2))))
      (pss_one (ps_ret (pe_tup (pa_cons (pe_op op_fdivAny (pv 0) (pv 2)) (pa_cons (pe_op op_fdivAny (pv 1) (pv 2)) pa_nil))))))), ?_⟩
    refine ⟨_, rfl, _, rfl, n, d, rfl, hn, hd, ?_⟩
    have hs : sg n d ≠ 0 := sg_ne h0
    have c1 : CDivAny n (sg n d) := div_any hs (sg_B h0 hd) (by decide)
    have c2 : CDivAny d (sg n d) := div_any hs (sg_B h0 hd) (by decide)
    rw [← fq_div h0] at q
    refine ⟨_, rfl, _, _, rfl, rfl, _, rfl, ite2 (fun e => ?_) (fun e => ?_)⟩
    · have e' : 0 < d := of_decide_eq_true e
      have es : sg n d = ((Nat.gcd n.natAbs d.natAbs : Nat) : Int) := if_neg (by omega)
      refine ⟨_, rfl, ?_⟩
      refine ⟨_, rfl, _, rfl, n, _, rfl, rfl, es ▸ c1, _, rfl, _, rfl, d, _, rfl, rfl, es ▸ c2, (by show 2 ≤ sizeLine; decide), fun t nt => ?_⟩
      rw [es] at q
      exact q t nt
    · have e' : ¬ 0 < d := fun z => e (decide_eq_true z)
      have es : sg n d = -((Nat.gcd n.natAbs d.natAbs : Nat) : Int) := if_pos (by omega)
      refine ⟨_, rfl, _, rfl, ?_⟩
      refine ⟨_, rfl, _, rfl, n, _, rfl, rfl, es ▸ c1, _, rfl, _, rfl, d, _, rfl, rfl, es ▸ c2, (by show 2 ≤ sizeLine; decide), fun t nt => ?_⟩
      rw [es] at q
      exact q t nt
/-! ### the law's sums -/
def sp_law_plus : PySem.W.Frag → Sp := spBin (fun a b => True) (fun a b => a + b)
abbrev s__law_plus : Stmt := topS 30
theorem sc__law_plus : FnScope ["f", "g"] ["f", "g"] (defScope s__law_plus) := ⟨rfl, rfl, rfl, by decide +kernel, rfl, by decide +kernel, by decide +kernel⟩
theorem k_law_plus (T : Tx K mg) (D : Df K mg "_law_plus" s__law_plus ["f", "g"]) (c_law_cut : Kl P w K mg base 2 "_law_cut" (sp_law_cut K)) : Kl P w K mg base 3 "_law_plus" (sp_law_plus K) := by
  have nd := sc__law_plus.nd
  refine Kl.by_body D sc__law_plus (fun vs H Q E h => ?_) (fun f cdv A outer s H vs Q E hr h => ?_)
  · obtain ⟨_, _, _, _, rfl, _⟩ := h
    rfl
  · obtain ⟨f, g, a, b, rfl, hf, hg, ha, hb, h0, q⟩ := h
    have hu1 := hu_of hr
    refine ⟨_, (pss_one (ps_ret (pe_k c_law_cut  hr (by decide) (by rfl) (pa_cons (pe_op op_add (pe_op op_mulW (pe_ix ix_tup (pv 0) pe_int (fun _ _ => rfl)) (pe_ix ix_tup (pv 1) pe_int (fun _ _ => rfl))) (pe_op op_mulW (pe_ix ix_tup (pv 1) pe_int (fun _ _ => rfl)) (pe_ix ix_tup (pv 0) pe_int (fun _ _ => rfl)))) (pa_cons (pe_op op_mulW (pe_ix ix_tup (pv 0) pe_int (fun _ _ => rfl)) (pe_ix ix_tup (pv 1) pe_int (fun _ _ => rfl))) pa_nil))))), ?_⟩
    refine ⟨.ref f, rfl, f, _, 0, .int a.num, rfl, rfl, hf, rfl, .ref g, rfl, g, _, 1, .int b.den, rfl, rfl, hg, rfl, _, _, rfl, rfl, (B.mulW ha.n hb.d (by decide)), .ref g, rfl, g, _, 0, .int b.num, rfl, rfl, hg, rfl, .ref f, rfl, f, _, 1, .int a.den, rfl, rfl, hf, rfl, _, _, rfl, rfl, (B.mulW hb.n ha.d (by decide)), _, _, rfl, rfl, .ref f, rfl, f, _, 1, .int a.den, rfl, rfl, hf, rfl, .ref g, rfl, g, _, 1, .int b.den, rfl, rfl, hg, rfl, _, _, rfl, rfl, (B.mulW ha.d hb.d (by decide)), _, _, rfl, (mul_ne (den_ne a) (den_ne b)), ((B.mul ha.n hb.d).add (B.mul hb.n ha.d)).up (by decide), (B.mul ha.d hb.d).up (by decide), fun t nt => ?_⟩
    rw [fr_add a b]
    exact q t nt
def sp_law_less : PySem.W.Frag → Sp := spBin (fun a b => True) (fun a b => a - b)
abbrev s__law_less : Stmt := topS 31
theorem sc__law_less : FnScope ["f", "g"] ["f", "g"] (defScope s__law_less) := ⟨rfl, rfl, rfl, by decide +kernel, rfl, by decide +kernel, by decide +kernel⟩
theorem k_law_less (T : Tx K mg) (D : Df K mg "_law_less" s__law_less ["f", "g"]) (c_law_cut : Kl P w K mg base 2 "_law_cut" (sp_law_cut K)) : Kl P w K mg base 3 "_law_less" (sp_law_less K) := by
  have nd := sc__law_less.nd
  refine Kl.by_body D sc__law_less (fun vs H Q E h => ?_) (fun f cdv A outer s H vs Q E hr h => ?_)
  · obtain ⟨_, _, _, _, rfl, _⟩ := h
    rfl
  · obtain ⟨f, g, a, b, rfl, hf, hg, ha, hb, h0, q⟩ := h
    have hu1 := hu_of hr
    refine ⟨_, (pss_one (ps_ret (pe_k c_law_cut  hr (by decide) (by rfl) (pa_cons (pe_op op_sub (pe_op op_mulW (pe_ix ix_tup (pv 0) pe_int (fun _ _ => rfl)) (pe_ix ix_tup (pv 1) pe_int (fun _ _ => rfl))) (pe_op op_mulW (pe_ix ix_tup (pv 1) pe_int (fun _ _ => rfl)) (pe_ix ix_tup (pv 0) pe_int (fun _ _ => rfl)))) (pa_cons (pe_op op_mulW (pe_ix ix_tup (pv 0) pe_int (fun _ _ => rfl)) (pe_ix ix_tup (pv 1) pe_int (fun _ _ => rfl))) pa_nil))))), ?_⟩
    refine ⟨.ref f, rfl, f, _, 0, .int a.num, rfl, rfl, hf, rfl, .ref g, rfl, g, _, 1, .int b.den, rfl, rfl, hg, rfl, _, _, rfl, rfl, (B.mulW ha.n hb.d (by decide)), .ref g, rfl, g, _, 0, .int b.num, rfl, rfl, hg, rfl, .ref f, rfl, f, _, 1, .int a.den, rfl, rfl, hf, rfl, _, _, rfl, rfl, (B.mulW hb.n ha.d (by decide)), _, _, rfl, rfl, .ref f, rfl, f, _, 1, .int a.den, rfl, rfl, hf, rfl, .ref g, rfl, g, _, 1, .int b.den, rfl, rfl, hg, rfl, _, _, rfl, rfl, (B.mulW ha.d hb.d (by decide)), _, _, rfl, (mul_ne (den_ne a) (den_ne b)), ((B.mul ha.n hb.d).sub (B.mul hb.n ha.d)).up (by decide), (B.mul ha.d hb.d).up (by decide), fun t nt => ?_⟩
    rw [fr_sub a b]
    exact q t nt
def sp_law_by : PySem.W.Frag → Sp := spBin (fun a b => True) (fun a b => a * b)
abbrev s__law_by : Stmt := topS 32
theorem sc__law_by : FnScope ["f", "g"] ["f", "g"] (defScope s__law_by) := ⟨rfl, rfl, rfl, by decide +kernel, rfl, by decide +kernel, by decide +kernel⟩
theorem k_law_by (T : Tx K mg) (D : Df K mg "_law_by" s__law_by ["f", "g"]) (c_law_cut : Kl P w K mg base 2 "_law_cut" (sp_law_cut K)) : Kl P w K mg base 3 "_law_by" (sp_law_by K) := by
  have nd := sc__law_by.nd
  refine Kl.by_body D sc__law_by (fun vs H Q E h => ?_) (fun f cdv A outer s H vs Q E hr h => ?_)
  · obtain ⟨_, _, _, _, rfl, _⟩ := h
    rfl
  · obtain ⟨f, g, a, b, rfl, hf, hg, ha, hb, h0, q⟩ := h
    have hu1 := hu_of hr
    refine ⟨_, (pss_one (ps_ret (pe_k c_law_cut  hr (by decide) (by rfl) (pa_cons (pe_op op_mulW (pe_ix ix_tup (pv 0) pe_int (fun _ _ => rfl)) (pe_ix ix_tup (pv 1) pe_int (fun _ _ => rfl))) (pa_cons (pe_op op_mulW (pe_ix ix_tup (pv 0) pe_int (fun _ _ => rfl)) (pe_ix ix_tup (pv 1) pe_int (fun _ _ => rfl))) pa_nil))))), ?_⟩
    refine ⟨.ref f, rfl, f, _, 0, .int a.num, rfl, rfl, hf, rfl, .ref g, rfl, g, _, 0, .int b.num, rfl, rfl, hg, rfl, _, _, rfl, rfl, (B.mulW ha.n hb.n (by decide)), .ref f, rfl, f, _, 1, .int a.den, rfl, rfl, hf, rfl, .ref g, rfl, g, _, 1, .int b.den, rfl, rfl, hg, rfl, _, _, rfl, rfl, (B.mulW ha.d hb.d (by decide)), _, _, rfl, (mul_ne (den_ne a) (den_ne b)), (B.mul ha.n hb.n).up (by decide), (B.mul ha.d hb.d).up (by decide), fun t nt => ?_⟩
    rw [fr_mul a b]
    exact q t nt
def sp_law_over : PySem.W.Frag → Sp := spBin (fun a b => b ≠ 0) (fun a b => a / b)
abbrev s__law_over : Stmt := topS 33
theorem sc__law_over : FnScope ["f", "g"] ["f", "g"] (defScope s__law_over) := ⟨rfl, rfl, rfl, by decide +kernel, rfl, by decide +kernel, by decide +kernel⟩
theorem k_law_over (T : Tx K mg) (D : Df K mg "_law_over" s__law_over ["f", "g"]) (c_law_cut : Kl P w K mg base 2 "_law_cut" (sp_law_cut K)) : Kl P w K mg base 3 "_law_over" (sp_law_over K) := by
  have nd := sc__law_over.nd
  refine Kl.by_body D sc__law_over (fun vs H Q E h => ?_) (fun f cdv A outer s H vs Q E hr h => ?_)
  · obtain ⟨_, _, _, _, rfl, _⟩ := h
    rfl
  · obtain ⟨f, g, a, b, rfl, hf, hg, ha, hb, h0, q⟩ := h
    have hu1 := hu_of hr
    refine ⟨_, (pss_one (ps_ret (pe_k c_law_cut  hr (by decide) (by rfl) (pa_cons (pe_op op_mulW (pe_ix ix_tup (pv 0) pe_int (fun _ _ => rfl)) (pe_ix ix_tup (pv 1) pe_int (fun _ _ => rfl))) (pa_cons (pe_op op_mulW (pe_ix ix_tup (pv 0) pe_int (fun _ _ => rfl)) (pe_ix ix_tup (pv 1) pe_int (fun _ _ => rfl))) pa_nil))))), ?_⟩
    refine ⟨.ref f, rfl, f, _, 0, .int a.num, rfl, rfl, hf, rfl, .ref g, rfl, g, _, 1, .int b.den, rfl, rfl, hg, rfl, _, _, rfl, rfl, (B.mulW ha.n hb.d (by decide)), .ref f, rfl, f, _, 1, .int a.den, rfl, rfl, hf, rfl, .ref g, rfl, g, _, 0, .int b.num, rfl, rfl, hg, rfl, _, _, rfl, rfl, (B.mulW ha.d hb.n (by decide)), _, _, rfl, (mul_ne (den_ne a) (num_ne h0)), (B.mul ha.n hb.d).up (by decide), (B.mul ha.d hb.n).up (by decide), fun t nt => ?_⟩
    rw [fr_div a b h0]
    exact q t nt
/-! ### the law's power -/
def sp_law_power (K : PySem.W.Frag) : Sp := fun vs H Q _ => ∃ (p : Addr) (a : Rat) (m n : Nat), vs = [.ref p, .int (n : Int)] ∧ SqT K H p (fq a) ∧ RB m a ∧ m * n ≤ 2900 ∧ n ≤ 60 ∧ ∀ H' t, Same H H' → H t = none → H' t = some (.tup (fq (a ^ n))) → Q (.ref t) H'
abbrev s__law_power : Stmt := topS 36
theorem sc__law_power : FnScope ["f", "n", "found", "k"] ["f", "n"] (defScope s__law_power) := ⟨rfl, rfl, rfl, by decide +kernel, rfl, by decide +kernel, by decide +kernel⟩
theorem k_law_power (T : Tx K mg) (D : Df K mg "_law_power" s__law_power ["f", "n"]) (c_law_by : Kl P w K mg base 3 "_law_by" (sp_law_by K)) : Kl P w K mg base 4 "_law_power" (sp_law_power K) := by
  have nd := sc__law_power.nd
  refine Kl.by_body D sc__law_power (fun vs H Q E h => ?_) (fun f cdv A outer s H vs Q E hr h => ?_)
  · obtain ⟨_, _, _, _, rfl, _⟩ := h
    rfl
  · obtain ⟨p, a, m, n, rfl, hp, hm, hl, hn60, q⟩ := h
    have hu1 := hu_of hr
    refine ⟨_, (pss_cons (ps_set (i := 2) nd rfl (by first | exact Or.inl rfl | exact Or.inr rfl) (pe_tup (pa_cons pe_int (pa_cons pe_int pa_nil))))
      (pss_cons (ps_for PassesOwn.never rfl (pi_range1 (by rfl) T.range (pa_cons (pv 1) pa_nil)) (pg_name (i := 3) nd rfl (by first | exact Or.inl rfl | exact Or.inr rfl)) (pss_one (ps_set (i := 2) nd rfl (by first | exact Or.inl rfl | exact Or.inr rfl) (pe_k c_law_by  hr (by decide) (by rfl) (pa_cons (pv 2) (pa_cons (pv 0) pa_nil))))))
      (pss_one (ps_ret (pv 2))))), ?_⟩
    refine ⟨(by show 2 ≤ sizeLine; decide), fun r nr => ?_⟩
    rw [q1]
    have s1 := Same.new (H := H) (p := r) (o := .tup (fq 1)) nr
    have g1 : upd H r (.tup (fq 1)) r = some (.tup (fq 1)) := upd_same
    generalize upd H r (.tup (fq 1)) = H1 at s1 g1 ⊢
    refine ⟨_, rfl, (n : Int), rfl, by omega, by omega, ?_⟩
    refine for_range (lo := 0) (n := n) (fun i σ H2 => Same H H2 ∧ ∃ (r : Addr) (v : Option V), σ = [some (.ref p), some (.int (n : Int)), some (.ref r), v] ∧ H r = none ∧ H2 r = some (.tup (fq (a ^ i)))) ⟨s1, r, none, rfl, nr, by rw [Rat.pow_zero]; exact g1⟩ ?_ ?_
    · rintro i σ H2 hi ⟨s2, r2, v, rfl, n2, g2⟩
      have hsz : m * i ≤ 2900 := Nat.le_trans (Nat.mul_le_mul_left m (Nat.le_of_lt hi)) hl
      have hm1 : m * 1 ≤ m * n := Nat.mul_le_mul_left m (by omega)
      refine ⟨_, rfl, _, rfl, r2, p, _, _, rfl, tup_of g2, Same.tup s2 hp, (hm.pow i).up (by omega), hm.up (by omega), trivial, fun t nt => ?_⟩
      refine ⟨Same.put s2 (s2.free nt), t, _, rfl, s2.free nt, ?_⟩
      rw [upd_same, Rat.pow_succ]
    · rintro σ H2 ⟨s2, r2, v, rfl, n2, g2⟩
      exact ⟨_, rfl, q _ r2 s2 n2 g2⟩
/-! ### the law's numbers -/
theorem Cv.nums_b8 (c : Cv) : (c.b2 * c.b6 - c.b4 * c.b4) / 4 = c.b8 := by
  have e : c.b2 * c.b6 - c.b4 * c.b4 = 4 * c.b8 := by
    unfold Cv.b2 Cv.b4 Cv.b6 Cv.b8
    grind
  rw [e]
  exact Int.mul_ediv_cancel_left _ (by decide)
theorem Cv.nums_c6 (c : Cv) : 36 * c.b2 * c.b4 - c.b2 ^ 3 - 216 * c.b6 = c.c6 := by
  unfold Cv.c6
  grind
theorem Cv.nums_d (c : Cv) : 9 * c.b2 * c.b4 * c.b6 - c.b2 * c.b2 * c.b8 - 8 * c.b4 ^ 3 - 27 * c.b6 * c.b6 = c.disc := by
  unfold Cv.disc
  grind
def sp_law_numbers (K : PySem.W.Frag) : Sp := fun vs H Q _ => ∃ (p : Addr) (c : Cv), vs = [.ref p] ∧ SqT K H p c.tup ∧ c.Sm ∧ ∀ t, H t = none → Q (.ref t) (upd H t (.tup c.nums))
abbrev s__law_numbers : Stmt := topS 34
theorem sc__law_numbers : FnScope ["five_v", "a", "b", "c", "d", "e", "b2", "b4", "b6", "b8", "c4", "c6", "disc"] ["five_v"] (defScope s__law_numbers) := ⟨rfl, rfl, rfl, by decide +kernel, rfl, by decide +kernel, by decide +kernel⟩
theorem k_law_numbers (T : Tx K mg) (D : Df K mg "_law_numbers" s__law_numbers ["five_v"])  : Kl P w K mg base 1 "_law_numbers" (sp_law_numbers K) := by
  have nd := sc__law_numbers.nd
  refine Kl.by_body D sc__law_numbers (fun vs H Q E h => ?_) (fun f cdv A outer s H vs Q E hr h => ?_)
  · obtain ⟨_, _, rfl, _⟩ := h
    rfl
  · obtain ⟨p, c, rfl, hx, hm, q⟩ := h
    have hu1 := hu_of hr
    refine ⟨_, (pss_cons (ps_asg (pv 0) (pg_tup rfl (pgs_cons (pg_name (i := 1) nd rfl (by first | exact Or.inl rfl | exact Or.inr rfl)) (pgs_cons (pg_name (i := 2) nd rfl (by first | exact Or.inl rfl | exact Or.inr rfl)) (pgs_cons (pg_name (i := 3) nd rfl (by first | exact Or.inl rfl | exact Or.inr rfl)) (pgs_cons (pg_name (i := 4) nd rfl (by first | exact Or.inl rfl | exact Or.inr rfl)) (pgs_cons (pg_name (i := 5) nd rfl (by first | exact Or.inl rfl | exact Or.inr rfl)) pgs_nil)))))))
      (pss_cons (ps_par3 (i := 6) (j := 7) (l := 8) (by rfl) nd rfl rfl rfl (by decide) (by decide) (by decide) rfl rfl rfl (pa_cons (pe_op op_add (pe_op op_mulW (pv 1) (pv 1)) (pe_op op_mul pe_int (pv 2))) (pa_cons (pe_op op_add (pe_op op_mul pe_int (pv 4)) (pe_op op_mulW (pv 1) (pv 3))) (pa_cons (pe_op op_add (pe_op op_mulW (pv 3) (pv 3)) (pe_op op_mul pe_int (pv 5))) pa_nil))) (by rfl))
      (pss_cons (ps_set (i := 9) nd rfl (by first | exact Or.inl rfl | exact Or.inr rfl) (pe_op op_fdiv (pe_op op_sub (pe_op op_mulW (pv 6) (pv 8)) (pe_op op_mulW (pv 7) (pv 7))) pe_int))
      (pss_cons (ps_par (i := 10) (j := 11) (by rfl) nd rfl rfl (by decide) rfl rfl (pa_cons (pe_op op_sub (pe_op op_mulW (pv 6) (pv 6)) (pe_op op_mul pe_int (pv 7))) (pa_cons (pe_op op_sub (pe_op op_sub (pe_op op_mulW (pe_op op_mul pe_int (pv 6)) (pv 7)) (pe_op op_pow (pv 6) pe_int)) (pe_op op_mul pe_int (pv 8))) pa_nil)) (by rfl))
      (pss_cons (ps_set (i := 12) nd rfl (by first | exact Or.inl rfl | exact Or.inr rfl) (pe_op op_sub (pe_op op_mulW (pe_op op_mulW (pe_op op_mul pe_int (pv 6)) (pv 7)) (pv 8)) (pe_op op_mulW (pe_op op_mulW (pv 6) (pv 6)) (pv 9))))
      (pss_one (ps_ret (pe_tup (pa_cons (pv 6) (pa_cons (pv 7) (pa_cons (pv 8) (pa_cons (pv 9) (pa_cons (pv 10) (pa_cons (pv 11) (pa_cons (pe_op op_sub (pe_op op_sub (pv 12) (pe_op op_mul pe_int (pe_op op_pow (pv 7) pe_int))) (pe_op op_mulW (pe_op op_mul pe_int (pv 8)) (pv 8))) pa_nil))))))))))))))), ?_⟩
    have e2 := hm.b2
    have e4 := hm.b4
    have e6 := hm.b6
    have e8 := hm.b8
    obtain ⟨h1, h2, h3, h4, h6⟩ := hm
    have p3 : B 133 (c.b2 ^ (3 : Int).toNat) := (e2.pow 3).up (by decide)
    have p4 : B 133 (c.b4 ^ (3 : Int).toNat) := (e4.pow 3).up (by decide)
    refine ⟨.ref p, rfl, p, _, rfl, hx, rfl, _, _, rfl, _, _, rfl, _, _, rfl, _, _, rfl, _, _, rfl, rfl, ?_⟩
    first | refine sigN [some (.ref p), some (.int (c.a1)), some (.int (c.a2)), some (.int (c.a3)), some (.int (c.a4)), some (.int (c.a6)), none, none, none, none, none, none, none] (by rfl) ?_ | refine sig [some (.ref p), some (.int (c.a1)), some (.int (c.a2)), some (.int (c.a3)), some (.int (c.a4)), some (.int (c.a6)), none, none, none, none, none, none, none] (by rfl) ?_
    refine ⟨_, rfl, _, rfl, _, _, rfl, rfl, (by walk_at "bnd"), _, rfl, _, _, rfl, rfl, (Or.inl ⟨by decide, by decide⟩), _, _, rfl, rfl, _, rfl, _, _, rfl, rfl, (Or.inl ⟨by decide, by decide⟩), _, rfl, _, rfl, _, _, rfl, rfl, (by walk_at "bnd"), _, _, rfl, rfl, _, rfl, _, rfl, _, _, rfl, rfl, (by walk_at "bnd"), _, rfl, _, _, rfl, rfl, (Or.inl ⟨by decide, by decide⟩), _, _, rfl, rfl, _, _, _, rfl, ?_⟩
    first | refine sigN [some (.ref p), some (.int (c.a1)), some (.int (c.a2)), some (.int (c.a3)), some (.int (c.a4)), some (.int (c.a6)), some (.int (c.b2)), some (.int (c.b4)), some (.int (c.b6)), none, none, none, none] (by rfl) ?_ | refine sig [some (.ref p), some (.int (c.a1)), some (.int (c.a2)), some (.int (c.a3)), some (.int (c.a4)), some (.int (c.a6)), some (.int (c.b2)), some (.int (c.b4)), some (.int (c.b6)), none, none, none, none] (by rfl) ?_
    refine ⟨_, rfl, _, rfl, _, _, rfl, rfl, (by walk_at "bnd"), _, rfl, _, rfl, _, _, rfl, rfl, (by walk_at "bnd"), _, _, rfl, rfl, _, _, rfl, rfl, ⟨by decide, by decide⟩, ?_⟩
    first | refine sigN [some (.ref p), some (.int c.a1), some (.int c.a2), some (.int c.a3), some (.int c.a4), some (.int c.a6), some (.int c.b2), some (.int c.b4), some (.int c.b6), some (.int c.b8), none, none, none] (by rw [← Cv.nums_b8]; rfl) ?_ | refine sig [some (.ref p), some (.int c.a1), some (.int c.a2), some (.int c.a3), some (.int c.a4), some (.int c.a6), some (.int c.b2), some (.int c.b4), some (.int c.b6), some (.int c.b8), none, none, none] (by rw [← Cv.nums_b8]; rfl) ?_
    refine ⟨_, rfl, _, rfl, _, _, rfl, rfl, (by walk_at "bnd"), _, rfl, _, _, rfl, rfl, (Or.inl ⟨by decide, by decide⟩), _, _, rfl, rfl, _, rfl, _, _, rfl, rfl, (Or.inl ⟨by decide, by decide⟩), _, rfl, _, _, rfl, rfl, (by walk_at "bnd"), _, rfl, _, _, rfl, rfl, ⟨by decide, by decide, by walk_at "pw"⟩, _, _, rfl, rfl, _, rfl, _, _, rfl, rfl, (Or.inl ⟨by decide, by decide⟩), _, _, rfl, rfl, _, _, rfl, ?_⟩
    first | refine sigN [some (.ref p), some (.int (c.a1)), some (.int (c.a2)), some (.int (c.a3)), some (.int (c.a4)), some (.int (c.a6)), some (.int (c.b2)), some (.int (c.b4)), some (.int (c.b6)), some (.int (c.b8)), some (.int (c.c4)), some (.int (36 * c.b2 * c.b4 - c.b2 ^ 3 - 216 * c.b6)), none] (by rfl) ?_ | refine sig [some (.ref p), some (.int (c.a1)), some (.int (c.a2)), some (.int (c.a3)), some (.int (c.a4)), some (.int (c.a6)), some (.int (c.b2)), some (.int (c.b4)), some (.int (c.b6)), some (.int (c.b8)), some (.int (c.c4)), some (.int (36 * c.b2 * c.b4 - c.b2 ^ 3 - 216 * c.b6)), none] (by rfl) ?_
    refine ⟨_, rfl, _, _, rfl, rfl, (Or.inl ⟨by decide, by decide⟩), _, rfl, _, _, rfl, rfl, (by walk_at "bnd"), _, rfl, _, _, rfl, rfl, (by walk_at "bnd"), _, rfl, _, rfl, _, _, rfl, rfl, (by walk_at "bnd"), _, rfl, _, _, rfl, rfl, (by walk_at "bnd"), _, _, rfl, rfl, ?_⟩
    first | refine sigN [some (.ref p), some (.int (c.a1)), some (.int (c.a2)), some (.int (c.a3)), some (.int (c.a4)), some (.int (c.a6)), some (.int (c.b2)), some (.int (c.b4)), some (.int (c.b6)), some (.int (c.b8)), some (.int (c.c4)), some (.int (36 * c.b2 * c.b4 - c.b2 ^ 3 - 216 * c.b6)), some (.int (9 * c.b2 * c.b4 * c.b6 - c.b2 * c.b2 * c.b8))] (by rfl) ?_ | refine sig [some (.ref p), some (.int (c.a1)), some (.int (c.a2)), some (.int (c.a3)), some (.int (c.a4)), some (.int (c.a6)), some (.int (c.b2)), some (.int (c.b4)), some (.int (c.b6)), some (.int (c.b8)), some (.int (c.c4)), some (.int (36 * c.b2 * c.b4 - c.b2 ^ 3 - 216 * c.b6)), some (.int (9 * c.b2 * c.b4 * c.b6 - c.b2 * c.b2 * c.b8))] (by rfl) ?_
    refine ⟨_, rfl, _, rfl, _, rfl, _, rfl, _, rfl, _, rfl, _, rfl, _, rfl, _, _, rfl, rfl, ⟨by decide, by decide, by walk_at "pw"⟩, _, _, rfl, rfl, (Or.inl ⟨by decide, by decide⟩), _, _, rfl, rfl, _, rfl, _, _, rfl, rfl, (Or.inl ⟨by decide, by decide⟩), _, rfl, _, _, rfl, rfl, (by walk_at "bnd"), _, _, rfl, rfl, (by show 7 ≤ sizeLine; decide), fun t nt => ?_⟩
    have e : c.nums = [V.int c.b2, V.int c.b4, V.int c.b6, V.int c.b8, V.int c.c4, V.int (36 * c.b2 * c.b4 - c.b2 ^ 3 - 216 * c.b6), V.int (9 * c.b2 * c.b4 * c.b6 - c.b2 * c.b2 * c.b8 - 8 * c.b4 ^ 3 - 27 * c.b6 * c.b6)] := by
      rw [Cv.nums_c6, Cv.nums_d]
      rfl
    rw [e] at q
    exact q t nt
end
end K07
set_option Elab.async false
set_option linter.all false
set_option maxRecDepth 100000
set_option maxHeartbeats 4000000
namespace K07
open PySem PySem.Spec PyProof.Rows L2 Gd QM
section
variable {P : Program} {w : World} {K : PySem.W.Frag} {mg : Str → Option Value} {base : Heap}
/-! ### the law's roots -/
theorem while_mono3 {a b c d e f : Nat} : True := trivial
def sp_law_root (K : PySem.W.Frag) : Sp := fun vs H Q _ => ∃ n : Int, vs = [.int n] ∧ 0 ≤ n ∧ B 100 n ∧ ∀ H' r, Same H H' → 0 ≤ r → r * r ≤ n → n < (r + 1) * (r + 1) → Q (.int r) H'
theorem sq_le {a n : Int} (h0 : 0 ≤ a) (h : a * a ≤ n) : a ≤ n := by
  rcases Int.lt_or_eq_of_le h0 with z | z
  · have h1 : a * 1 ≤ a * a := Int.mul_le_mul_of_nonneg_left (by omega) h0
    omega
  · subst z
    omega
abbrev s__law_root : Stmt := topS 35
theorem sc__law_root : FnScope ["n", "low", "high", "middle"] ["n"] (defScope s__law_root) := ⟨rfl, rfl, rfl, by decide +kernel, rfl, by decide +kernel, by decide +kernel⟩
theorem k_law_root (T : Tx K mg) (D : Df K mg "_law_root" s__law_root ["n"])  : Kl P w K mg base 1 "_law_root" (sp_law_root K) := by
  have nd := sc__law_root.nd
  refine Kl.by_body D sc__law_root (fun vs H Q E h => ?_) (fun f cdv A outer s H vs Q E hr h => ?_)
  · obtain ⟨_, rfl, _⟩ := h
    rfl
  · obtain ⟨n, rfl, h0, hn, q⟩ := h
    have hu1 := hu_of hr
    refine ⟨_, (pss_cons (ps_asg (pe_tup (pa_cons pe_int (pa_cons pe_int pa_nil))) (pg_tup rfl (pgs_cons (pg_name (i := 1) nd rfl (by first | exact Or.inl rfl | exact Or.inr rfl)) (pgs_cons (pg_name (i := 2) nd rfl (by first | exact Or.inl rfl | exact Or.inr rfl)) pgs_nil))))
      (pss_cons (ps_while PassesOwn.never (pt_cmpR op_le (pe_op op_mulW (pv 2) (pv 2)) (pv 0) (nomark _)) (pss_one (ps_par (i := 1) (j := 2) (by rfl) nd rfl rfl (by decide) rfl rfl (pa_cons (pv 2) (pa_cons (pe_op op_mul pe_int (pv 2)) pa_nil)) (by rfl))))
      (pss_cons (ps_while PassesOwn.never (pt_cmpR op_gt (pe_op op_sub (pv 2) (pv 1)) pe_int (nomark _)) (pss_cons (ps_set (i := 3) nd rfl (by first | exact Or.inl rfl | exact Or.inr rfl) (pe_op op_fdiv (pe_op op_add (pv 1) (pv 2)) pe_int))
      (pss_one (ps_asg (pe_ifExp (pt_cmpR op_le (pe_op op_mulW (pv 3) (pv 3)) (pv 0) (nomark _)) (pe_tup (pa_cons (pv 3) (pa_cons (pv 2) pa_nil))) (pe_tup (pa_cons (pv 1) (pa_cons (pv 3) pa_nil)))) (pg_tup rfl (pgs_cons (pg_name (i := 1) nd rfl (by first | exact Or.inl rfl | exact Or.inr rfl)) (pgs_cons (pg_name (i := 2) nd rfl (by first | exact Or.inl rfl | exact Or.inr rfl)) pgs_nil)))))))
      (pss_one (ps_ret (pv 1)))))), ?_⟩
    refine ⟨(by show 2 ≤ sizeLine; decide), fun t0 nt0 => ?_⟩
    have s1 := Same.new (H := H) (p := t0) (o := .tup [.int 0, .int 1]) nt0
    have g1 : upd H t0 (.tup [.int 0, .int 1]) t0 = some (.tup [.int 0, .int 1]) := upd_same
    generalize upd H t0 (.tup [.int 0, .int 1]) = H1 at s1 g1 ⊢
    refine ⟨t0, _, rfl, tup_of g1, rfl, _, _, rfl, _, _, rfl, rfl, ?_⟩
    first | refine sigN [some (.int (n)), some (.int (0)), some (.int (1)), none] (by rfl) ?_ | refine sig [some (.int (n)), some (.int (0)), some (.int (1)), none] (by rfl) ?_
    refine while_by (fun σ H2 => ∃ lo hi : Int, σ = [some (.int n), some (.int lo), some (.int hi), none] ∧ Same H H2 ∧ 0 ≤ lo ∧ lo < hi ∧ lo * lo ≤ n ∧ hi ≤ 2 * n + 1)
      (fun σ _ => match σ with | [_, _, some (.int hi), _] => (n + 1 - hi).toNat | _ => 0) ⟨0, 1, rfl, s1, by decide, by decide, by omega, by omega⟩ ?_ ?_
    · rintro σ H2 ⟨lo, hi, rfl, s2, l0, lh, ll, hb⟩
      have hB : B 110 hi := by
        unfold B at *
        omega
      refine ⟨_, rfl, _, rfl, _, _, rfl, rfl, hB.mulW hB (by decide), _, rfl, _, _, rfl, rfl, _, rfl, ?_⟩
      by_cases hh : hi * hi ≤ n
      · refine iteY (decide_eq_true hh) ?_
        have h1 := sq_le (by omega) hh
        refine ⟨_, rfl, _, rfl, _, _, rfl, rfl, (Or.inl ⟨by decide, by decide⟩), _, _, rfl, ?_⟩
        refine ⟨⟨hi, 2 * hi, rfl, s2, by omega, by omega, hh, by omega⟩, ?_⟩
        show (n + 1 - 2 * hi).toNat < (n + 1 - hi).toNat
        omega
      · refine iteN (by simpa using hh) ?_
        have hg : n < hi * hi := by omega
        refine while_by (fun σ H3 => Same H2 H3 ∧ ∃ (lo hi : Int) (v : Option V), σ = [some (.int n), some (.int lo), some (.int hi), v] ∧ 0 ≤ lo ∧ lo < hi ∧ lo * lo ≤ n ∧ n < hi * hi ∧ B 110 hi)
          (fun σ _ => match σ with | [_, some (.int lo), some (.int hi), _] => (hi - lo).toNat | _ => 0) ⟨Same.refl _, lo, hi, none, rfl, l0, lh, ll, hg, hB⟩ ?_ ?_
        · rintro σ H3 ⟨s3, lo, hi, v, rfl, l0, lh, ll, hg, hB⟩
          refine ⟨_, rfl, _, rfl, _, _, rfl, rfl, _, _, rfl, rfl, _, rfl, ?_⟩
          by_cases hh : 1 < hi - lo
          · refine iteY (decide_eq_true hh) ?_
            refine ⟨_, rfl, _, rfl, _, _, rfl, rfl, _, _, rfl, rfl, ⟨by decide, by decide⟩, ?_⟩
            first | refine sigN [some (.int (n)), some (.int (lo)), some (.int (hi)), some (.int ((lo + hi) / 2))] (by rfl) ?_ | refine sig [some (.int (n)), some (.int (lo)), some (.int (hi)), some (.int ((lo + hi) / 2))] (by rfl) ?_
            have m1 : lo < (lo + hi) / 2 := by omega
            have m2 : (lo + hi) / 2 < hi := by omega
            generalize (lo + hi) / 2 = mid at m1 m2 ⊢
            have mB : B 110 mid := by
              unfold B at *
              omega
            refine ⟨_, rfl, _, rfl, _, _, rfl, rfl, mB.mulW mB (by decide), _, rfl, _, _, rfl, rfl, _, rfl, ite2 (fun e => ?_) (fun e => ?_)⟩
            · have e' : mid * mid ≤ n := of_decide_eq_true e
              refine ⟨_, rfl, _, rfl, (by show 2 ≤ sizeLine; decide), fun t nt => ?_⟩
              refine ⟨t, _, rfl, tup_of upd_same, rfl, _, _, rfl, _, _, rfl, rfl, ?_⟩
              refine ⟨⟨Same.put s3 (s3.free nt), mid, hi, _, rfl, by omega, m2, e', hg, hB⟩, ?_⟩
              show (hi - mid).toNat < (hi - lo).toNat
              omega
            · have e' : ¬ mid * mid ≤ n := fun z => e (decide_eq_true z)
              refine ⟨_, rfl, _, rfl, (by show 2 ≤ sizeLine; decide), fun t nt => ?_⟩
              refine ⟨t, _, rfl, tup_of upd_same, rfl, _, _, rfl, _, _, rfl, rfl, ?_⟩
              refine ⟨⟨Same.put s3 (s3.free nt), lo, mid, _, rfl, l0, m1, ll, by omega, mB⟩, ?_⟩
              show (mid - lo).toNat < (hi - lo).toNat
              omega
          · refine iteN (by simpa using hh) ?_
            have e : hi = lo + 1 := by omega
            subst e
            exact ⟨_, rfl, q _ lo (s2.trans s3) l0 ll hg⟩
        · rintro σ H3 Q1 Q2 i ⟨v, hv, v2, hv2, x, y, e1, e2, x2, y2, e3, e4, k, e, z⟩
          exact ⟨v, hv, v2, hv2, x, y, e1, e2, x2, y2, e3, e4, k, e, i _ _ z⟩
    · rintro σ H2 Q1 Q2 i ⟨v, hv, v2, hv2, x, y, e1, e2, hc, v3, hv3, x2, y2, e3, e4, k, e, z⟩
      exact ⟨v, hv, v2, hv2, x, y, e1, e2, hc, v3, hv3, x2, y2, e3, e4, k, e, i _ _ z⟩
/-! ### the third root -/
theorem cub_le {a n : Int} (h0 : 0 ≤ a) (h : a ^ 3 ≤ n) : a ≤ n := small_root h0 (by decide) h
theorem cub_B {a n : Int} (h0 : 0 ≤ a) (hn : B 100 n) (h : a ^ 3 ≤ n) : B 50 a := by
  by_cases z : a < 2 ^ 50
  · unfold B
    omega
  · exfalso
    have h1 := ipow_le (show (0 : Int) ≤ 2 ^ 50 by decide) (show 2 ^ 50 ≤ a by omega) 3
    unfold B at hn
    have h2 : ((2 : Int) ^ 50) ^ 3 = 2 ^ 150 := by decide
    rw [h2] at h1
    omega
def sp_law_third_root (K : PySem.W.Frag) : Sp := fun vs H Q _ => ∃ n : Int, vs = [.int n] ∧ 0 ≤ n ∧ B 100 n ∧ (∀ H' r, Same H H' → 0 ≤ r → r ^ 3 = n → Q (.int r) H') ∧ (∀ H', Same H H' → (∀ r, 0 ≤ r → r ^ 3 ≠ n) → Q .non H')
abbrev s__law_third_root : Stmt := topS 38
theorem sc__law_third_root : FnScope ["n", "low", "high", "middle"] ["n"] (defScope s__law_third_root) := ⟨rfl, rfl, rfl, by decide +kernel, rfl, by decide +kernel, by decide +kernel⟩
theorem k_law_third_root (T : Tx K mg) (D : Df K mg "_law_third_root" s__law_third_root ["n"])  : Kl P w K mg base 1 "_law_third_root" (sp_law_third_root K) := by
  have nd := sc__law_third_root.nd
  refine Kl.by_body D sc__law_third_root (fun vs H Q E h => ?_) (fun f cdv A outer s H vs Q E hr h => ?_)
  · obtain ⟨_, rfl, _⟩ := h
    rfl
  · obtain ⟨n, rfl, h0, hn, q1, q2⟩ := h
    have hu1 := hu_of hr
    refine ⟨_, (pss_cons (ps_asg (pe_tup (pa_cons pe_int (pa_cons pe_int pa_nil))) (pg_tup rfl (pgs_cons (pg_name (i := 1) nd rfl (by first | exact Or.inl rfl | exact Or.inr rfl)) (pgs_cons (pg_name (i := 2) nd rfl (by first | exact Or.inl rfl | exact Or.inr rfl)) pgs_nil))))
      (pss_cons (ps_while PassesOwn.never (pt_cmpR op_le (pe_op op_pow (pv 2) pe_int) (pv 0) (nomark _)) (pss_one (ps_set (i := 2) nd rfl (by first | exact Or.inl rfl | exact Or.inr rfl) (pe_op op_mul pe_int (pv 2)))))
      (pss_cons (ps_while PassesOwn.never (pt_cmpR op_gt (pe_op op_sub (pv 2) (pv 1)) pe_int (nomark _)) (pss_cons (ps_set (i := 3) nd rfl (by first | exact Or.inl rfl | exact Or.inr rfl) (pe_op op_fdiv (pe_op op_add (pv 1) (pv 2)) pe_int))
      (pss_one (ps_asg (pe_ifExp (pt_cmpR op_le (pe_op op_pow (pv 3) pe_int) (pv 0) (nomark _)) (pe_tup (pa_cons (pv 3) (pa_cons (pv 2) pa_nil))) (pe_tup (pa_cons (pv 1) (pa_cons (pv 3) pa_nil)))) (pg_tup rfl (pgs_cons (pg_name (i := 1) nd rfl (by first | exact Or.inl rfl | exact Or.inr rfl)) (pgs_cons (pg_name (i := 2) nd rfl (by first | exact Or.inl rfl | exact Or.inr rfl)) pgs_nil)))))))
      (pss_one (ps_ret (pe_ifExp (pt_cmpR op_eq (pe_op op_pow (pv 1) pe_int) (pv 0) (nomark _)) (pv 1) pe_non)))))), ?_⟩
    refine ⟨(by show 2 ≤ sizeLine; decide), fun t0 nt0 => ?_⟩
    have s1 := Same.new (H := H) (p := t0) (o := .tup [.int 0, .int 1]) nt0
    have g1 : upd H t0 (.tup [.int 0, .int 1]) t0 = some (.tup [.int 0, .int 1]) := upd_same
    generalize upd H t0 (.tup [.int 0, .int 1]) = H1 at s1 g1 ⊢
    refine ⟨t0, _, rfl, tup_of g1, rfl, _, _, rfl, _, _, rfl, rfl, ?_⟩
    first | refine sigN [some (.int (n)), some (.int (0)), some (.int (1)), none] (by rfl) ?_ | refine sig [some (.int (n)), some (.int (0)), some (.int (1)), none] (by rfl) ?_
    refine while_by (fun σ H2 => ∃ hi : Int, σ = [some (.int n), some (.int 0), some (.int hi), none] ∧ Same H H2 ∧ 1 ≤ hi ∧ hi ≤ 2 * n + 1 ∧ B 52 hi)
      (fun σ _ => match σ with | [_, _, some (.int hi), _] => (n + 1 - hi).toNat | _ => 0) ⟨1, rfl, s1, by decide, by omega, B.lit (by decide)⟩ ?_ ?_
    · rintro σ H2 ⟨hi, rfl, s2, lh, hb, hB⟩
      refine ⟨_, rfl, _, _, rfl, rfl, ⟨by decide, by decide, hB.up (n := 64) (by decide)⟩, _, rfl, _, _, rfl, rfl, _, rfl, ?_⟩
      by_cases hh : hi ^ 3 ≤ n
      · refine iteY (decide_eq_true hh) ?_
        have h1 := cub_le (by omega) hh
        have h2 := cub_B (by omega) hn hh
        refine ⟨_, rfl, _, _, rfl, rfl, (Or.inl ⟨by decide, by decide⟩), ?_⟩
        refine ⟨⟨2 * hi, rfl, s2, by omega, by omega, ?_⟩, ?_⟩
        · unfold B at *
          omega
        · show (n + 1 - 2 * hi).toNat < (n + 1 - hi).toNat
          omega
      · refine iteN (by simpa using hh) ?_
        have hg : n < hi ^ 3 := by omega
        refine while_by (fun σ H3 => Same H2 H3 ∧ ∃ (lo hi : Int) (v : Option V), σ = [some (.int n), some (.int lo), some (.int hi), v] ∧ 0 ≤ lo ∧ lo < hi ∧ lo ^ 3 ≤ n ∧ n < hi ^ 3 ∧ B 52 hi)
          (fun σ _ => match σ with | [_, some (.int lo), some (.int hi), _] => (hi - lo).toNat | _ => 0) ⟨Same.refl _, 0, hi, none, rfl, by decide, by omega, h0, hg, hB⟩ ?_ ?_
        · rintro σ H3 ⟨s3, lo, hi, v, rfl, l0, lh, ll, hg, hB⟩
          refine ⟨_, rfl, _, rfl, _, _, rfl, rfl, _, _, rfl, rfl, _, rfl, ?_⟩
          by_cases hh : 1 < hi - lo
          · refine iteY (decide_eq_true hh) ?_
            refine ⟨_, rfl, _, rfl, _, _, rfl, rfl, _, _, rfl, rfl, ⟨by decide, by decide⟩, ?_⟩
            first | refine sigN [some (.int (n)), some (.int (lo)), some (.int (hi)), some (.int ((lo + hi) / 2))] (by rfl) ?_ | refine sig [some (.int (n)), some (.int (lo)), some (.int (hi)), some (.int ((lo + hi) / 2))] (by rfl) ?_
            have m1 : lo < (lo + hi) / 2 := by omega
            have m2 : (lo + hi) / 2 < hi := by omega
            generalize (lo + hi) / 2 = mid at m1 m2 ⊢
            have mB : B 52 mid := by
              unfold B at *
              omega
            refine ⟨_, rfl, _, _, rfl, rfl, ⟨by decide, by decide, mB.up (n := 64) (by decide)⟩, _, rfl, _, _, rfl, rfl, _, rfl, ite2 (fun e => ?_) (fun e => ?_)⟩
            · have e' : mid ^ 3 ≤ n := of_decide_eq_true e
              refine ⟨_, rfl, _, rfl, (by show 2 ≤ sizeLine; decide), fun t nt => ?_⟩
              refine ⟨t, _, rfl, tup_of upd_same, rfl, _, _, rfl, _, _, rfl, rfl, ?_⟩
              refine ⟨⟨Same.put s3 (s3.free nt), mid, hi, _, rfl, by omega, m2, e', hg, hB⟩, ?_⟩
              show (hi - mid).toNat < (hi - lo).toNat
              omega
            · have e' : ¬ mid ^ 3 ≤ n := fun z => e (decide_eq_true z)
              refine ⟨_, rfl, _, rfl, (by show 2 ≤ sizeLine; decide), fun t nt => ?_⟩
              refine ⟨t, _, rfl, tup_of upd_same, rfl, _, _, rfl, _, _, rfl, rfl, ?_⟩
              refine ⟨⟨Same.put s3 (s3.free nt), lo, mid, _, rfl, l0, m1, ll, by omega, mB⟩, ?_⟩
              show (mid - lo).toNat < (hi - lo).toNat
              omega
          · refine iteN (by simpa using hh) ?_
            have e : hi = lo + 1 := by omega
            subst e
            have bl : B 53 lo := by
              unfold B at *
              omega
            refine ⟨_, rfl, _, _, rfl, rfl, ⟨by decide, by decide, bl.up (n := 64) (by decide)⟩, _, rfl, rfl, _, rfl, ?_⟩
            rw [dec_int]
            by_cases hz : lo ^ 3 = n
            · refine iteY (by simpa using hz) ?_
              exact ⟨_, rfl, q1 _ lo (s2.trans s3) l0 hz⟩
            · refine iteN (by simpa using hz) ?_
              refine q2 _ (s2.trans s3) (fun r hr' e => hz ?_)
              have h1 : r ≤ lo := by
                by_cases z : lo < r
                · have := ipow_le (show 0 ≤ lo + 1 by omega) (show lo + 1 ≤ r by omega) 3
                  omega
                · omega
              have h2 := ipow_le hr' h1 3
              omega
        · rintro σ H3 Q1 Q2 i ⟨v, hv, v2, hv2, x, y, e1, e2, x2, y2, e3, e4, k, e, z⟩
          exact ⟨v, hv, v2, hv2, x, y, e1, e2, x2, y2, e3, e4, k, e, i _ _ z⟩
    · rintro σ H2 Q1 Q2 i ⟨v, hv, x, y, e1, e2, hc, v3, hv3, x2, y2, e3, e4, k, e, z⟩
      exact ⟨v, hv, x, y, e1, e2, hc, v3, hv3, x2, y2, e3, e4, k, e, i _ _ z⟩
/-! ### the square root of a fraction -/
theorem eqv_q (a b c d : Int) : PyData.eqv (.tuple [.int a, .int b]) (.tuple [.int c, .int d]) = (decide (a = c) && decide (b = d)) := by
  rw [Bool.eq_iff_iff]
  simp [PyData.eqv, PyData.eqvAll]
theorem eqv_dq (a b : Rat) : PyData.eqv (dq a) (dq b) = decide (a = b) := by
  unfold dq
  rw [eqv_q, Bool.eq_iff_iff, Bool.and_eq_true, decide_eq_true_iff, decide_eq_true_iff, decide_eq_true_iff]
  constructor
  · rintro ⟨h1, h2⟩
    exact Rat.ext h1 (by omega)
  · rintro rfl
    exact ⟨rfl, rfl⟩
theorem sq_B {r n : Int} (h0 : 0 ≤ r) (h : r * r ≤ n) (hn : B 90 n) : B 46 r := by
  by_cases z : r < 2 ^ 45
  · unfold B
    omega
  · exfalso
    have h1 : (2 ^ 45 : Int) * 2 ^ 45 ≤ r * r := Int.mul_le_mul (by omega) (by omega) (by decide) h0
    unfold B at hn
    omega
theorem sq_uniq {a b : Int} (ha : 0 ≤ a) (h1 : a * a ≤ b * b) (h2 : b * b < (a + 1) * (a + 1)) (hb : 0 ≤ b) : a = b := by
  rcases Int.lt_trichotomy a b with z | z | z
  · have := Int.mul_le_mul (show a + 1 ≤ b by omega) (show a + 1 ≤ b by omega) (by omega) hb
    omega
  · exact z
  · have h3 : b * b < a * a := Int.mul_self_lt_mul_self hb z
    omega
def sp_law_square_root (K : PySem.W.Frag) : Sp := fun vs H Q _ => ∃ x, vs = [x] ∧ ((x = .non ∧ Q .non H) ∨ ∃ (p : Addr) (a : Rat), x = .ref p ∧ SqT K H p (fq a) ∧ RB 90 a ∧ (∀ r H' t, 0 < r → r ^ 2 = a → Same H H' → H' t = some (.tup (fq r)) → Q (.ref t) H') ∧ (∀ H', (∀ r, 0 < r → r ^ 2 ≠ a) → Same H H' → Q .non H'))
abbrev s__law_square_root : Stmt := topS 37
theorem sc__law_square_root : FnScope ["f", "parts"] ["f"] (defScope s__law_square_root) := ⟨rfl, rfl, rfl, by decide +kernel, rfl, by decide +kernel, by decide +kernel⟩
theorem k_law_square_root (T : Tx K mg) (D : Df K mg "_law_square_root" s__law_square_root ["f"]) (c_law_root : Kl P w K mg base 1 "_law_root" (sp_law_root K)) : Kl P w K mg base 2 "_law_square_root" (sp_law_square_root K) := by
  have nd := sc__law_square_root.nd
  refine Kl.by_body D sc__law_square_root (fun vs H Q E h => ?_) (fun f cdv A outer s H vs Q E hr h => ?_)
  · obtain ⟨_, rfl, _⟩ := h
    rfl
  · obtain ⟨x, rfl, h⟩ := h
    have hu1 := hu_of hr
    refine ⟨_, (pss_cons (ps_if (PW.pt (pw_or (pt_cmpR op_isN (pv 0) pe_non (nomark _)) (pw_or1 (pt_cmpR op_le (pe_ix ix_tup (pv 0) pe_int (fun _ _ => rfl)) pe_int (nomark _))))) (pss_one (ps_ret pe_non)) pss_nil)
      (pss_cons (ps_set (i := 1) nd rfl (by first | exact Or.inl rfl | exact Or.inr rfl) (pe_tup (pa_cons (pe_k c_law_root  hr (by decide) (by rfl) (pa_cons (pe_ix ix_tup (pv 0) pe_int (fun _ _ => rfl)) pa_nil)) (pa_cons (pe_k c_law_root  hr (by decide) (by rfl) (pa_cons (pe_ix ix_tup (pv 0) pe_int (fun _ _ => rfl)) pa_nil)) pa_nil))))
      (pss_one (ps_ret (pe_ifExp (pt_cmpR (op_eqD hr.units) (pe_tup (pa_cons (pe_op op_pow (pe_ix ix_tup (pv 1) pe_int (fun _ _ => rfl)) pe_int) (pa_cons (pe_op op_pow (pe_ix ix_tup (pv 1) pe_int (fun _ _ => rfl)) pe_int) pa_nil))) (pv 0) (nomark _)) (pv 1) pe_non))))), ?_⟩
    rcases h with ⟨rfl, q⟩ | ⟨p, a, rfl, hp, ha, q1, q2⟩
    · exact ⟨_, rfl, rfl, _, rfl, iteT q⟩
    · refine ⟨_, rfl, rfl, _, rfl, iteF ?_⟩
      refine ⟨.ref p, rfl, p, _, 0, .int a.num, rfl, rfl, hp, rfl, a.num, 0, rfl, rfl, _, rfl, ?_⟩
      by_cases h0 : a.num ≤ 0
      · refine iteY (decide_eq_true h0) ?_
        exact q2 _ (fun r r0 e => by
          have h1 := Rat.pow_pos (n := 2) r0
          rw [e] at h1
          have := num_pos h1
          omega) (Same.refl _)
      · refine iteN (by simpa using h0) ?_
        refine ⟨.ref p, rfl, p, _, 0, .int a.num, rfl, rfl, hp, rfl, a.num, rfl, by omega, ha.n.up (by decide), fun H1 s s1 s0 sl sg' => ?_⟩
        refine ⟨.ref p, rfl, p, _, 1, .int (a.den : Int), rfl, rfl, Same.tup s1 hp, rfl, (a.den : Int), rfl, by omega, ha.d.up (by decide), fun H2 t s2 t0 tl tg => ?_⟩
        refine ⟨(by show 2 ≤ sizeLine; decide), fun u nu => ?_⟩
        have s3 := Same.new (H := H2) (p := u) (o := .tup [.int s, .int t]) nu
        have g3 : upd H2 u (.tup [.int s, .int t]) u = some (.tup [.int s, .int t]) := upd_same
        generalize upd H2 u (.tup [.int s, .int t]) = H3 at s3 g3 ⊢
        have sA := s1.trans (s2.trans s3)
        have hsB := sq_B s0 sl ha.n
        have htB := sq_B t0 tl ha.d
        refine ⟨.ref u, rfl, u, _, 0, .int s, rfl, rfl, tup_of g3, rfl, _, _, rfl, rfl, ⟨by decide, by decide, hsB.up (n := 64) (by decide)⟩, .ref u, rfl, u, _, 1, .int t, rfl, rfl, tup_of g3, rfl, _, _, rfl, rfl, ⟨by decide, by decide, htB.up (n := 64) (by decide)⟩, (by show 2 ≤ sizeLine; decide), fun w2 nw => ?_⟩
        have s4 := Same.new (H := H3) (p := w2) (o := .tup [.int (s ^ 2), .int (t ^ 2)]) nw
        have sB := sA.trans s4
        refine ⟨_, rfl, .tuple [.int (s ^ 2), .int (t ^ 2)], dq a, .tup (tup_of upd_same) (.cons (.int _) (.cons (.int _) .nil)), dp_q (Same.tup sB hp), rfl, rfl, _, rfl, ?_⟩
        show if PyData.eqv (.tuple [.int (s ^ 2), .int (t ^ 2)]) (.tuple [.int a.num, .int (a.den : Int)]) = true then _ else _
        rw [eqv_q]
        by_cases hh : s ^ 2 = a.num ∧ t ^ 2 = (a.den : Int)
        · refine iteY (by simpa using hh) ?_
          have hs0 : 0 < s := by
            rcases Int.lt_or_eq_of_le s0 with z | z
            · exact z
            · subst z
              have := hh.1
              omega
          have ht0 : 0 < t := by
            rcases Int.lt_or_eq_of_le t0 with z | z
            · exact z
            · subst z
              have := den_ne a
              have := hh.2
              omega
          obtain ⟨r, r0, re, rn, rd⟩ := rootQ (k := 2) (by decide) hs0 ht0 hh.1 hh.2
          refine ⟨_, rfl, q1 r _ u r0 re sB ?_⟩
          unfold fq
          rw [rn, rd]
          exact s4 _ _ g3
        · refine iteN (by simpa using hh) ?_
          refine q2 _ (fun r r0 re => hh ?_) sB
          have e1 : a.num = r.num * r.num := by rw [← re, npow, Int.pow_succ, Int.pow_one]
          have e2 : (a.den : Int) = (r.den : Int) * r.den := by
            rw [← re, dpow, Nat.pow_succ, Nat.pow_one]
            exact Int.natCast_mul _ _
          have f1 : s = r.num := sq_uniq s0 (by omega) (by omega) (Int.le_of_lt (num_pos r0))
          have f2 : t = (r.den : Int) := sq_uniq t0 (by omega) (by omega) (by omega)
          rw [f1, f2, e1, e2]
          constructor <;> grind
end
end K07
set_option Elab.async false
set_option linter.all false
set_option maxRecDepth 100000
set_option maxHeartbeats 4000000
namespace K07
open PySem PySem.Spec PyProof.Rows L2 Gd QM
section
variable {P : Program} {w : World} {K : PySem.W.Frag} {mg : Str → Option Value} {base : Heap}
local macro_rules | `(tactic| walk_at "mm") => `(tactic| (repeat (first | exact List.mem_cons_self | apply List.mem_cons_of_mem)))
theorem eb (x y : Int) : (!decide (V.bl (decide (V.int x = V.int 0)) = V.bl (decide (V.int y = V.int 0)))) = decide (¬ (x = 0 ↔ y = 0)) := by
  rw [Bool.eq_iff_iff]
  simp
/-! ### the law's scale -/
def sp_law_u (K : PySem.W.Frag) : Sp := fun vs H Q _ => ∃ (p o : Addr) (c e : Cv), vs = [.ref p, .ref o] ∧ SqT K H p c.tup ∧ SqT K H o e.tup ∧ c.Sm ∧ e.Sm ∧ NZ c ∧ NZ e ∧ (∀ u H' t, UU c e u → RB 90 u → Same H H' → H' t = some (.tup (fq u)) → Q (.ref t) H') ∧ (∀ H', (∀ u, ¬ UU c e u) → Same H H' → Q .non H')
/-- what stands for the square of the scale -/
def SqrOf (c e : Cv) (H : Hp) (v : V) : Prop := (v = .non ∧ ∀ u, ¬ UU c e u) ∨ ∃ (a : Addr) (s : Rat), v = .ref a ∧ H a = some (.tup (fq s)) ∧ RB 90 s ∧ 0 < s ∧ ∀ u, UU c e u → u ^ 2 = s
abbrev s__law_u : Stmt := topS 39
theorem sc__law_u : FnScope ["five_v", "other", "c4", "c6", "e4", "e6", "square", "third", "roots", "u"] ["five_v", "other"] (defScope s__law_u) := ⟨rfl, rfl, rfl, by decide +kernel, rfl, by decide +kernel, by decide +kernel⟩
theorem k_law_u (T : Tx K mg) (D : Df K mg "_law_u" s__law_u ["five_v", "other"]) (c_law_square_root : Kl P w K mg base 2 "_law_square_root" (sp_law_square_root K)) (c_law_numbers : Kl P w K mg base 1 "_law_numbers" (sp_law_numbers K)) (c_law_cut : Kl P w K mg base 2 "_law_cut" (sp_law_cut K)) (c_law_by : Kl P w K mg base 3 "_law_by" (sp_law_by K)) (c_law_third_root : Kl P w K mg base 1 "_law_third_root" (sp_law_third_root K)) (c_law_power : Kl P w K mg base 4 "_law_power" (sp_law_power K)) : Kl P w K mg base 5 "_law_u" (sp_law_u K) := by
  have nd := sc__law_u.nd
  refine Kl.by_body D sc__law_u (fun vs H Q E h => ?_) (fun f cdv A outer s H vs Q E hr h => ?_)
  · obtain ⟨_, _, _, _, rfl, _⟩ := h
    rfl
  · obtain ⟨p, o, c, e, rfl, hp, ho, hc, he, nc, ne, q1, q2⟩ := h
    have hu1 := hu_of hr
    refine ⟨_, (pss_cons (ps_asg (pe_slice sl_tupA (pe_k c_law_numbers  hr (by decide) (by rfl) (pa_cons (pv 0) pa_nil)) (po_some pe_int) (po_some pe_int)) (pg_tup rfl (pgs_cons (pg_name (i := 2) nd rfl (by first | exact Or.inl rfl | exact Or.inr rfl)) (pgs_cons (pg_name (i := 3) nd rfl (by first | exact Or.inl rfl | exact Or.inr rfl)) pgs_nil))))
      (pss_cons (ps_asg (pe_slice sl_tupA (pe_k c_law_numbers  hr (by decide) (by rfl) (pa_cons (pv 1) pa_nil)) (po_some pe_int) (po_some pe_int)) (pg_tup rfl (pgs_cons (pg_name (i := 4) nd rfl (by first | exact Or.inl rfl | exact Or.inr rfl)) (pgs_cons (pg_name (i := 5) nd rfl (by first | exact Or.inl rfl | exact Or.inr rfl)) pgs_nil))))
      (pss_cons (ps_if (PW.pt (pw_or (pt_cmpR op_ne (pe_cmpR op_eq (pv 2) pe_int (nomark _)) (pe_cmpR op_eq (pv 4) pe_int (nomark _)) (nomark _)) (pw_or1 (pt_cmpR op_ne (pe_cmpR op_eq (pv 3) pe_int (nomark _)) (pe_cmpR op_eq (pv 5) pe_int (nomark _)) (nomark _))))) (pss_one (ps_ret pe_non)) pss_nil)
      (C8.pss_cut (ps_if (pt_cmpR op_ne (pv 2) pe_int (nomark _)) (pss_one (ps_set (i := 6) nd rfl (by first | exact Or.inl rfl | exact Or.inr rfl) (pe_k c_law_square_root  hr (by decide) (by rfl) (pa_cons (pe_ifExp (pt_cmpR op_gt (pe_op op_mulW (pv 2) (pv 4)) pe_int (nomark _)) (pe_k c_law_cut  hr (by decide) (by rfl) (pa_cons (pv 2) (pa_cons (pv 4) pa_nil))) pe_non) pa_nil)))) (pss_cons (ps_set (i := 7) nd rfl (by first | exact Or.inl rfl | exact Or.inr rfl) (pe_k c_law_cut  hr (by decide) (by rfl) (pa_cons (pv 3) (pa_cons (pv 5) pa_nil))))
      (pss_cons (ps_set (i := 8) nd rfl (by first | exact Or.inl rfl | exact Or.inr rfl) (pe_ifExp (pt_cmpR op_gt (pe_ix ix_tup (pv 7) pe_int (fun _ _ => rfl)) pe_int (nomark _)) (pe_tup (pa_cons (pe_k c_law_third_root  hr (by decide) (by rfl) (pa_cons (pe_callB call_abs (by rfl) T.abs (by decide +kernel) (pa_cons (pe_ix ix_tup (pv 7) pe_int (fun _ _ => rfl)) pa_nil)) pa_nil)) (pa_cons (pe_k c_law_third_root  hr (by decide) (by rfl) (pa_cons (pe_ix ix_tup (pv 7) pe_int (fun _ _ => rfl)) pa_nil)) pa_nil))) (pe_tup (pa_cons pe_non (pa_cons pe_non pa_nil)))))
      (pss_one (ps_set (i := 6) nd rfl (by first | exact Or.inl rfl | exact Or.inr rfl) (pe_ifExp (pt_cmpR op_in_seq pe_non (pv 8) rfl) pe_non (pv 8)))))))
      (pss_cons (ps_set (i := 9) nd rfl (by first | exact Or.inl rfl | exact Or.inr rfl) (pe_k c_law_square_root  hr (by decide) (by rfl) (pa_cons (pv 6) pa_nil)))
      (pss_cons (ps_if (PW.pt (pw_or (pt_cmpR op_isN (pv 9) pe_non (nomark _)) (pw_or (pt_cmpR (op_neD hr.units) (pe_k c_law_by  hr (by decide) (by rfl) (pa_cons (pe_tup (pa_cons (pv 5) (pa_cons pe_int pa_nil))) (pa_cons (pe_k c_law_power  hr (by decide) (by rfl) (pa_cons (pv 9) (pa_cons pe_int pa_nil))) pa_nil))) (pe_tup (pa_cons (pv 3) (pa_cons pe_int pa_nil))) (nomark _)) (pw_or1 (pt_cmpR (op_neD hr.units) (pe_k c_law_by  hr (by decide) (by rfl) (pa_cons (pe_tup (pa_cons (pv 4) (pa_cons pe_int pa_nil))) (pa_cons (pe_k c_law_power  hr (by decide) (by rfl) (pa_cons (pv 9) (pa_cons pe_int pa_nil))) pa_nil))) (pe_tup (pa_cons (pv 2) (pa_cons pe_int pa_nil))) (nomark _)))))) (pss_one (ps_ret pe_non)) pss_nil)
      (pss_one (ps_ret (pv 9))))))))), ?_⟩
    refine ⟨.ref p, rfl, p, c, rfl, hp, hc, fun t nt => ?_⟩
    have s1 := Same.new (H := H) (p := t) (o := .tup c.nums) nt
    have g1 : upd H t (.tup c.nums) t = some (.tup c.nums) := upd_same
    generalize upd H t (.tup c.nums) = H1 at s1 g1 ⊢
    refine ⟨4, rfl, 6, rfl, slA_any (tup_of g1) fun p1 H2 s2 e1 => ?_⟩
    refine ⟨p1, _, rfl, e1, rfl, _, _, rfl, _, _, rfl, rfl, ?_⟩
    first | refine sigN [some (.ref p), some (.ref o), some (.int (c.c4)), some (.int (c.c6)), none, none, none, none, none, none] (by rfl) ?_ | refine sig [some (.ref p), some (.ref o), some (.int (c.c4)), some (.int (c.c6)), none, none, none, none, none, none] (by rfl) ?_
    have sA := s1.trans s2
    refine ⟨.ref o, rfl, o, e, rfl, Same.tup sA ho, he, fun t2 nt2 => ?_⟩
    have s3 := Same.new (H := H2) (p := t2) (o := .tup e.nums) nt2
    have g3 : upd H2 t2 (.tup e.nums) t2 = some (.tup e.nums) := upd_same
    generalize upd H2 t2 (.tup e.nums) = H3 at s3 g3 ⊢
    refine ⟨4, rfl, 6, rfl, slA_any (tup_of g3) fun p2 H4 s4 e2 => ?_⟩
    refine ⟨p2, _, rfl, e2, rfl, _, _, rfl, _, _, rfl, rfl, ?_⟩
    first | refine sigN [some (.ref p), some (.ref o), some (.int (c.c4)), some (.int (c.c6)), some (.int (e.c4)), some (.int (e.c6)), none, none, none, none] (by rfl) ?_ | refine sig [some (.ref p), some (.ref o), some (.int (c.c4)), some (.int (c.c6)), some (.int (e.c4)), some (.int (e.c6)), none, none, none, none] (by rfl) ?_
    have sB := sA.trans (s3.trans s4)
    clear s1 s2 s3 s4 sA g1 g3 nt nt2 e1 e2
    have c4B := hc.c4
    have e4B := he.c4
    have c6B := hc.c6
    have e6B := he.c6
    refine ⟨_, rfl, rfl, _, rfl, rfl, rfl, _, rfl, ?_⟩
    rw [eb]
    by_cases z4 : c.c4 = 0 ↔ e.c4 = 0
    case neg =>
      refine iteY (decide_eq_true z4) ?_
      exact q2 _ (fun u h => z4 (U.z4 h)) sB
    refine iteN (by simpa using z4) ?_
    refine ⟨_, rfl, rfl, _, rfl, rfl, rfl, _, rfl, ?_⟩
    rw [eb]
    by_cases z6 : c.c6 = 0 ↔ e.c6 = 0
    case neg =>
      refine iteY (decide_eq_true z6) ?_
      exact q2 _ (fun u h => z6 (U.z6 h)) sB
    refine iteN (by simpa using z6) ?_
    refine ⟨fun σ H5 => Same H H5 ∧ ∃ (v : V) (v7 v8 : Option V), σ = [some (.ref p), some (.ref o), some (.int c.c4), some (.int c.c6), some (.int e.c4), some (.int e.c6), some v, v7, v8, none] ∧ SqrOf c e H5 v, ?_, ?_⟩
    · refine ⟨_, rfl, rfl, _, rfl, ?_⟩
      rw [dec_int]
      by_cases y4 : c.c4 = 0
      · refine iteN (by simpa using y4) ?_
        have y4e : e.c4 = 0 := z4.mp y4
        have y6 : c.c6 ≠ 0 := nc.resolve_left (fun h => h y4)
        have y6e : e.c6 ≠ 0 := fun h => y6 (z6.mpr h)
        have q3 : RB 80 (Rat.divInt c.c6 e.c6) := RB.of y6e c6B e6B
        refine ⟨_, rfl, _, rfl, c.c6, e.c6, rfl, y6e, c6B.up (by decide), e6B.up (by decide), fun f nf => ?_⟩
        have s5 := Same.new (H := H4) (p := f) (o := .tup (fq (Rat.divInt c.c6 e.c6))) nf
        have g5 : upd H4 f (.tup (fq (Rat.divInt c.c6 e.c6))) f = some (.tup (fq (Rat.divInt c.c6 e.c6))) := upd_same
        generalize upd H4 f (.tup (fq (Rat.divInt c.c6 e.c6))) = H5 at s5 g5 ⊢
        have sC := sB.trans s5
        first | refine sigN [some (.ref p), some (.ref o), some (.int (c.c4)), some (.int (c.c6)), some (.int (e.c4)), some (.int (e.c6)), none, some (.ref f), none, none] (by rfl) ?_ | refine sig [some (.ref p), some (.ref o), some (.int (c.c4)), some (.int (c.c6)), some (.int (e.c4)), some (.int (e.c6)), none, some (.ref f), none, none] (by rfl) ?_
        refine ⟨.ref f, rfl, f, _, 0, .int (Rat.divInt c.c6 e.c6).num, rfl, rfl, tup_of g5, rfl, _, _, rfl, rfl, _, rfl, ite2 (fun h => ?_) (fun h => ?_)⟩
        · have h' : 0 < (Rat.divInt c.c6 e.c6).num := of_decide_eq_true h
          have hn : (((Rat.divInt c.c6 e.c6).num.natAbs : Nat) : Int) = (Rat.divInt c.c6 e.c6).num := by omega
          have aB : B 100 (((Rat.divInt c.c6 e.c6).num.natAbs : Nat) : Int) := by
            rw [hn]
            exact q3.n.up (by decide)
          refine ⟨.ref f, rfl, f, _, 0, .int (Rat.divInt c.c6 e.c6).num, rfl, rfl, tup_of g5, rfl, _, rfl, (((Rat.divInt c.c6 e.c6).num.natAbs : Nat) : Int), congrArg (fun z => [V.int z]) (abs_eq _), by omega, aB, fun H6 x s6 x0 xe => ?_, fun H6 s6 no => ?_⟩
          · refine ⟨.ref f, rfl, f, _, 1, .int ((Rat.divInt c.c6 e.c6).den : Int), rfl, rfl, tup_of (s6 _ _ g5), rfl, _, rfl, by omega, q3.d.up (by decide), fun H7 y s7 y0 ye => ?_, fun H7 s7 no => ?_⟩
            · refine ⟨(by show 2 ≤ sizeLine; decide), fun t nt => ?_⟩
              have s8 := Same.new (H := H7) (p := t) (o := .tup [.int x, .int y]) nt
              have g8 : upd H7 t (.tup [.int x, .int y]) t = some (.tup [.int x, .int y]) := upd_same
              generalize upd H7 t (.tup [.int x, .int y]) = H8 at s8 g8 ⊢
              refine ⟨_, rfl, t, _, rfl, .inr (tup_of g8), rfl, rfl, _, rfl, iteF ?_⟩
              have hx0 : 0 < x := by
                rcases Int.lt_or_eq_of_le x0 with z | z
                · exact z
                · subst z
                  have e0 : (0 : Int) ^ 3 = 0 := rfl
                  omega
              have hy0 : 0 < y := by
                rcases Int.lt_or_eq_of_le y0 with z | z
                · exact z
                · subst z
                  have e0 : (0 : Int) ^ 3 = 0 := rfl
                  have := den_ne (Rat.divInt c.c6 e.c6)
                  omega
              obtain ⟨r, r0, re, rn, rd⟩ := rootQ (k := 3) (by decide) hx0 hy0 (xe.trans hn) ye
              refine ⟨_, rfl, sC.trans (s6.trans (s7.trans s8)), .ref t, some (.ref f), some (.ref t), rfl, .inr ⟨t, r, rfl, ?_, RB.up (RB.root (k := 3) (by decide) (by rw [re]; exact q3)) (by decide), r0, fun u hu => U.cb6 y6e hu r0 re⟩⟩
              unfold fq
              rw [rn, rd]
              exact g8
            · refine ⟨(by show 2 ≤ sizeLine; decide), fun t nt => ?_⟩
              have s8 := Same.new (H := H7) (p := t) (o := .tup [.int x, .non]) nt
              have g8 : upd H7 t (.tup [.int x, .non]) t = some (.tup [.int x, .non]) := upd_same
              generalize upd H7 t (.tup [.int x, .non]) = H8 at s8 g8 ⊢
              refine ⟨_, rfl, t, _, rfl, .inr (tup_of g8), rfl, rfl, _, rfl, iteT ?_⟩
              refine ⟨sC.trans (s6.trans (s7.trans s8)), .non, some (.ref f), some (.ref t), rfl, .inl ⟨rfl, fun u hu => no ((u ^ 2).den : Int) (by omega) ?_⟩⟩
              rw [← Int.natCast_pow, ← dpow, U.cb6' y6e hu]
          · have noU : ∀ u, ¬ UU c e u := fun u hu => no (u ^ 2).num (Int.le_of_lt (num_pos (qpos hu.1 2))) (by rw [← npow, U.cb6' y6e hu, hn])
            refine ⟨.ref f, rfl, f, _, 1, .int ((Rat.divInt c.c6 e.c6).den : Int), rfl, rfl, tup_of (s6 _ _ g5), rfl, _, rfl, by omega, q3.d.up (by decide), fun H7 y s7 y0 ye => ?_, fun H7 s7 no => ?_⟩
            · refine ⟨(by show 2 ≤ sizeLine; decide), fun t nt => ?_⟩
              have s8 := Same.new (H := H7) (p := t) (o := .tup [.non, .int y]) nt
              have g8 : upd H7 t (.tup [.non, .int y]) t = some (.tup [.non, .int y]) := upd_same
              generalize upd H7 t (.tup [.non, .int y]) = H8 at s8 g8 ⊢
              refine ⟨_, rfl, t, _, rfl, .inr (tup_of g8), rfl, rfl, _, rfl, iteT ?_⟩
              exact ⟨sC.trans (s6.trans (s7.trans s8)), .non, some (.ref f), some (.ref t), rfl, .inl ⟨rfl, noU⟩⟩
            · refine ⟨(by show 2 ≤ sizeLine; decide), fun t nt => ?_⟩
              have s8 := Same.new (H := H7) (p := t) (o := .tup [.non, .non]) nt
              have g8 : upd H7 t (.tup [.non, .non]) t = some (.tup [.non, .non]) := upd_same
              generalize upd H7 t (.tup [.non, .non]) = H8 at s8 g8 ⊢
              refine ⟨_, rfl, t, _, rfl, .inr (tup_of g8), rfl, rfl, _, rfl, iteT ?_⟩
              exact ⟨sC.trans (s6.trans (s7.trans s8)), .non, some (.ref f), some (.ref t), rfl, .inl ⟨rfl, noU⟩⟩
        · have h' : ¬ 0 < (Rat.divInt c.c6 e.c6).num := fun z => h (decide_eq_true z)
          refine ⟨(by show 2 ≤ sizeLine; decide), fun t nt => ?_⟩
          have s6 := Same.new (H := H5) (p := t) (o := .tup [.non, .non]) nt
          have g6 : upd H5 t (.tup [.non, .non]) t = some (.tup [.non, .non]) := upd_same
          generalize upd H5 t (.tup [.non, .non]) = H6 at s6 g6 ⊢
          refine ⟨_, rfl, t, _, rfl, .inr (tup_of g6), rfl, rfl, _, rfl, iteT ?_⟩
          exact ⟨sC.trans s6, .non, some (.ref f), some (.ref t), rfl, .inl ⟨rfl, fun u hu => h' (U.pos6 y6e hu)⟩⟩
      · refine iteY (by simpa using y4) ?_
        have y4e : e.c4 ≠ 0 := fun h => y4 (z4.mpr h)
        refine ⟨_, rfl, _, rfl, _, _, rfl, rfl, c4B.mulW e4B (by decide), _, _, rfl, rfl, _, rfl, ite2 (fun h => ?_) (fun h => ?_)⟩
        · refine ⟨_, rfl, _, rfl, c.c4, e.c4, rfl, y4e, c4B.up (by decide), e4B.up (by decide), fun f nf => ?_⟩
          have s5 := Same.new (H := H4) (p := f) (o := .tup (fq (Rat.divInt c.c4 e.c4))) nf
          have g5 : upd H4 f (.tup (fq (Rat.divInt c.c4 e.c4))) f = some (.tup (fq (Rat.divInt c.c4 e.c4))) := upd_same
          generalize upd H4 f (.tup (fq (Rat.divInt c.c4 e.c4))) = H5 at s5 g5 ⊢
          refine ⟨_, rfl, .inr ⟨f, _, rfl, tup_of g5, RB.of y4e (c4B.up (by decide)) (e4B.up (by decide)), fun r H6 t r0 re s6 g6 => ?_, fun H6 no s6 => ?_⟩⟩
          · refine ⟨sB.trans (s5.trans s6), .ref t, none, none, rfl, .inr ⟨t, r, rfl, g6, RB.root (k := 2) (by decide) ?_, r0, fun u hu => U.sq4 y4e hu r0 re⟩⟩
            rw [re]
            exact RB.of y4e (c4B.up (by decide)) (e4B.up (by decide))
          · exact ⟨sB.trans (s5.trans s6), .non, none, none, rfl, .inl ⟨rfl, fun u hu => no (u ^ 2) (qpos hu.1 2) (U.sq4' y4e hu)⟩⟩
        · have h' : ¬ 0 < c.c4 * e.c4 := fun z => h (decide_eq_true z)
          exact ⟨_, rfl, .inl ⟨rfl, sB, .non, none, none, rfl, .inl ⟨rfl, fun u hu => h' (U.pos4 y4e hu)⟩⟩⟩
    · rintro σ H5 ⟨s5, v, v7, v8, rfl, hv⟩
      rcases hv with ⟨rfl, no⟩ | ⟨a, s, rfl, ga, sBd, s0, hs⟩
      · refine ⟨_, rfl, _, rfl, .inl ⟨rfl, ?_⟩⟩
        refine ⟨_, rfl, rfl, _, rfl, iteT ?_⟩
        exact q2 _ no s5
      · refine ⟨_, rfl, _, rfl, .inr ⟨a, s, rfl, tup_of ga, sBd, fun r H6 t r0 re s6 g6 => ?_, fun H6 no s6 => ?_⟩⟩
        · have rB : RB 90 r := RB.root (k := 2) (by decide) (by rw [re]; exact sBd)
          refine ⟨_, rfl, rfl, _, rfl, iteF ?_⟩
          have E0 : FrE K H6 [(t, r, 90)] := FrE.add FrE.nil (tup_of g6) rB
          refine ⟨_, rfl, ?_⟩
          refine ⟨(by show 2 ≤ sizeLine; decide), fun t1 nt1 => ?_⟩
          obtain ⟨H7, eH_, s7, E1⟩ := litE E0 nt1 (fq_int e.c6).symm (RB.int e6B (by decide))
          rw [eH_]
          clear eH_
          refine ⟨.ref t, rfl, t, r, 90, 6, rfl, E1.get (by walk_at "mm"), rB, by decide, by decide, fun H8 t2 s8 nt2 g8 => ?_⟩
          have E2 := (E1.same s8).add (tup_of g8) (rB.pow 6)
          refine ⟨t1, t2, _, _, rfl, E2.get (by walk_at "mm"), E2.get (by walk_at "mm"), (E2.rb (p := t1) (by walk_at "mm")).up (by decide), (E2.rb (p := t2) (by walk_at "mm")).up (by decide), trivial, fun t3 nt3 => ?_⟩
          obtain ⟨H9, eH_, s9, E3⟩ := stepE E2 nt3 (RB.mul (E2.rb (p := t1) (by walk_at "mm")) (E2.rb (p := t2) (by walk_at "mm")))
          rw [eH_]
          clear eH_
          refine ⟨_, rfl, ?_⟩
          refine ⟨(by show 2 ≤ sizeLine; decide), fun t4 nt4 => ?_⟩
          obtain ⟨Ha, eH_, sa, E4⟩ := litE E3 nt4 (fq_int c.c6).symm (RB.int c6B (by decide))
          rw [eH_]
          clear eH_
          refine ⟨_, _, dp_q (E4.get (p := t3) (by walk_at "mm")), dp_q (E4.get (p := t4) (by walk_at "mm")), rfl, rfl, _, rfl, ?_⟩
          rw [eqv_dq]
          have sAll := s6.trans (s7.trans (s8.trans (s9.trans sa)))
          by_cases h6 : (e.c6 : Rat) * r ^ 6 = (c.c6 : Rat)
          case neg =>
            refine iteY (by simpa using h6) ?_
            refine q2 _ (fun v hv => h6 ?_) (s5.trans sAll)
            have ev : v = r := qpow_inj (k := 2) (by decide) hv.1 r0 (by rw [hs v hv, re])
            subst ev
            exact ((U.iff r0).mp hv).1
          refine iteN (by simpa using h6) ?_
          refine ⟨_, rfl, ?_⟩
          refine ⟨(by show 2 ≤ sizeLine; decide), fun t5 nt5 => ?_⟩
          obtain ⟨Hb, eH_, sb, E5⟩ := litE E4 nt5 (fq_int e.c4).symm (RB.int e4B (by decide))
          rw [eH_]
          clear eH_
          refine ⟨.ref t, rfl, t, r, 90, 4, rfl, E5.get (by walk_at "mm"), rB, by decide, by decide, fun Hc t6 sc nt6 gc => ?_⟩
          have E6 := (E5.same sc).add (tup_of gc) (rB.pow 4)
          refine ⟨t5, t6, _, _, rfl, E6.get (by walk_at "mm"), E6.get (by walk_at "mm"), (E6.rb (p := t5) (by walk_at "mm")).up (by decide), (E6.rb (p := t6) (by walk_at "mm")).up (by decide), trivial, fun t7 nt7 => ?_⟩
          obtain ⟨Hd, eH_, sd, E7⟩ := stepE E6 nt7 (RB.mul (E6.rb (p := t5) (by walk_at "mm")) (E6.rb (p := t6) (by walk_at "mm")))
          rw [eH_]
          clear eH_
          refine ⟨_, rfl, ?_⟩
          refine ⟨(by show 2 ≤ sizeLine; decide), fun t8 nt8 => ?_⟩
          obtain ⟨He, eH_, se, E8⟩ := litE E7 nt8 (fq_int c.c4).symm (RB.int c4B (by decide))
          rw [eH_]
          clear eH_
          refine ⟨_, _, dp_q (E8.get (p := t7) (by walk_at "mm")), dp_q (E8.get (p := t8) (by walk_at "mm")), rfl, rfl, _, rfl, ?_⟩
          rw [eqv_dq]
          have sEnd := sAll.trans (sb.trans (sc.trans (sd.trans se)))
          by_cases h4 : (e.c4 : Rat) * r ^ 4 = (c.c4 : Rat)
          case neg =>
            refine iteY (by simpa using h4) ?_
            refine q2 _ (fun v hv => h4 ?_) (s5.trans sEnd)
            have ev : v = r := qpow_inj (k := 2) (by decide) hv.1 r0 (by rw [hs v hv, re])
            subst ev
            exact ((U.iff r0).mp hv).2
          refine iteN (by simpa using h4) ?_
          refine ⟨_, rfl, q1 r _ t ((U.iff r0).mpr ⟨h6, h4⟩) rB (s5.trans sEnd) ?_⟩
          exact (s7.trans (s8.trans (s9.trans (sa.trans (sb.trans (sc.trans (sd.trans se))))))) _ _ g6
        · refine ⟨_, rfl, rfl, _, rfl, iteT ?_⟩
          exact q2 _ (fun u hu => no u hu.1 (hs u hu)) (s5.trans s6)
end
end K07
set_option Elab.async false
set_option linter.all false
set_option maxRecDepth 100000
set_option maxHeartbeats 4000000
namespace K07
open PySem PySem.Spec PyProof.Rows L2 Gd QM
section
variable {P : Program} {w : World} {K : PySem.W.Frag} {mg : Str → Option Value} {base : Heap}
local macro_rules | `(tactic| walk_at "mm") => `(tactic| (repeat (first | exact List.mem_cons_self | apply List.mem_cons_of_mem)))
theorem fq_half : [V.int 1, V.int 2] = fq (1 / 2) := by
  unfold fq
  rw [show (1 / 2 : Rat).num = 1 by decide +kernel, show (1 / 2 : Rat).den = 2 by decide +kernel]
  rfl
theorem fq_third : [V.int 1, V.int 3] = fq (1 / 3) := by
  unfold fq
  rw [show (1 / 3 : Rat).num = 1 by decide +kernel, show (1 / 3 : Rat).den = 3 by decide +kernel]
  rfl
/-! ### the law's change -/
def sp_law_change_of (K : PySem.W.Frag) : Sp := fun vs H Q _ => ∃ (p o v : Addr) (c e : Cv) (u : Rat), vs = [.ref p, .ref o, .ref v] ∧ SqT K H p c.tup ∧ SqT K H o e.tup ∧ c.Sm ∧ e.Sm ∧ SqT K H v (fq u) ∧ RB 160 u ∧ ∀ H' t, Same H H' → Dp K H' (.ref t) (dch c e u) → Q (.ref t) H'
abbrev s__law_change_of : Stmt := topS 40
theorem sc__law_change_of : FnScope ["five_v", "other", "u", "f", "g", "part", "s", "r", "t"] ["five_v", "other", "u"] (defScope s__law_change_of) := ⟨rfl, rfl, rfl, by decide +kernel, rfl, by decide +kernel, by decide +kernel⟩
theorem k_law_change_of (T : Tx K mg) (D : Df K mg "_law_change_of" s__law_change_of ["five_v", "other", "u"]) (c_law_by : Kl P w K mg base 3 "_law_by" (sp_law_by K)) (c_law_plus : Kl P w K mg base 3 "_law_plus" (sp_law_plus K)) (c_law_less : Kl P w K mg base 3 "_law_less" (sp_law_less K)) (c_law_power : Kl P w K mg base 4 "_law_power" (sp_law_power K)) : Kl P w K mg base 5 "_law_change_of" (sp_law_change_of K) := by
  have nd := sc__law_change_of.nd
  refine Kl.by_body D sc__law_change_of (fun vs H Q E h => ?_) (fun f cdv A outer s H vs Q E hr h => ?_)
  · obtain ⟨_, _, _, _, _, _, rfl, _⟩ := h
    rfl
  · obtain ⟨p, o, v, c, e, u, rfl, hp, ho, hc, he, hv, hu, q⟩ := h
    have hu1 := hu_of hr
    refine ⟨_, (pss_cons (ps_par (i := 3) (j := 4) (by rfl) nd rfl rfl (by decide) rfl rfl (pa_cons (pe_lc (own := [("part", 5)]) (g := gName 5) rfl nd (pi_tup (pv 0)) (blkOk_by (N := ["five_v", "other", "u", "f", "g", "part", "s", "r", "t"]) (sc := defScope s__law_change_of) (by decide +kernel)) (fun _ _ _ _ _ => (pg_name (i := 5) nd rfl (by first | exact Or.inl rfl | exact Or.inr rfl))) (fun _ _ _ _ _ => pts_nil) (fun _ _ _ _ _ => (pe_tup (pa_cons (pv 5) (pa_cons pe_int pa_nil))))) (pa_cons (pe_lc (own := [("part", 5)]) (g := gName 5) rfl nd (pi_tup (pv 1)) (blkOk_by (N := ["five_v", "other", "u", "f", "g", "part", "s", "r", "t"]) (sc := defScope s__law_change_of) (by decide +kernel)) (fun _ _ _ _ _ => (pg_name (i := 5) nd rfl (by first | exact Or.inl rfl | exact Or.inr rfl))) (fun _ _ _ _ _ => pts_nil) (fun _ _ _ _ _ => (pe_tup (pa_cons (pv 5) (pa_cons pe_int pa_nil))))) pa_nil)) (by rfl))
      (pss_cons (ps_set (i := 6) nd rfl (by first | exact Or.inl rfl | exact Or.inr rfl) (pe_k c_law_by  hr (by decide) (by rfl) (pa_cons (pe_k c_law_less  hr (by decide) (by rfl) (pa_cons (pe_k c_law_by  hr (by decide) (by rfl) (pa_cons (pv 2) (pa_cons (pe_ix ix_list (pv 4) pe_int (fun _ _ => rfl)) pa_nil))) (pa_cons (pe_ix ix_list (pv 3) pe_int (fun _ _ => rfl)) pa_nil))) (pa_cons (pe_tup (pa_cons pe_int (pa_cons pe_int pa_nil))) pa_nil))))
      (pss_cons (ps_set (i := 7) nd rfl (by first | exact Or.inl rfl | exact Or.inr rfl) (pe_k c_law_plus  hr (by decide) (by rfl) (pa_cons (pe_k c_law_less  hr (by decide) (by rfl) (pa_cons (pe_k c_law_by  hr (by decide) (by rfl) (pa_cons (pe_k c_law_power  hr (by decide) (by rfl) (pa_cons (pv 2) (pa_cons pe_int pa_nil))) (pa_cons (pe_ix ix_list (pv 4) pe_int (fun _ _ => rfl)) pa_nil))) (pa_cons (pe_ix ix_list (pv 3) pe_int (fun _ _ => rfl)) pa_nil))) (pa_cons (pe_k c_law_plus  hr (by decide) (by rfl) (pa_cons (pe_k c_law_by  hr (by decide) (by rfl) (pa_cons (pv 6) (pa_cons (pe_ix ix_list (pv 3) pe_int (fun _ _ => rfl)) pa_nil))) (pa_cons (pe_k c_law_by  hr (by decide) (by rfl) (pa_cons (pv 6) (pa_cons (pv 6) pa_nil))) pa_nil))) pa_nil))))
      (pss_cons (ps_set (i := 7) nd rfl (by first | exact Or.inl rfl | exact Or.inr rfl) (pe_k c_law_by  hr (by decide) (by rfl) (pa_cons (pv 7) (pa_cons (pe_tup (pa_cons pe_int (pa_cons pe_int pa_nil))) pa_nil))))
      (pss_cons (ps_set (i := 8) nd rfl (by first | exact Or.inl rfl | exact Or.inr rfl) (pe_k c_law_less  hr (by decide) (by rfl) (pa_cons (pe_k c_law_less  hr (by decide) (by rfl) (pa_cons (pe_k c_law_by  hr (by decide) (by rfl) (pa_cons (pe_k c_law_power  hr (by decide) (by rfl) (pa_cons (pv 2) (pa_cons pe_int pa_nil))) (pa_cons (pe_ix ix_list (pv 4) pe_int (fun _ _ => rfl)) pa_nil))) (pa_cons (pe_ix ix_list (pv 3) pe_int (fun _ _ => rfl)) pa_nil))) (pa_cons (pe_k c_law_by  hr (by decide) (by rfl) (pa_cons (pv 7) (pa_cons (pe_ix ix_list (pv 3) pe_int (fun _ _ => rfl)) pa_nil))) pa_nil))))
      (pss_one (ps_ret (pe_tup (pa_cons (pv 2) (pa_cons (pv 7) (pa_cons (pv 6) (pa_cons (pe_k c_law_by  hr (by decide) (by rfl) (pa_cons (pv 8) (pa_cons (pe_tup (pa_cons pe_int (pa_cons pe_int pa_nil))) pa_nil))) pa_nil)))))))))))), ?_⟩
    refine ⟨.ref p, rfl, p, rfl, ⟨_, hp⟩, fun D1 hD1 => ?_⟩
    refine lc_tup (K := K) (a := p) (xs := c.tup) (fun i H4 => Same H H4 ∧ FrD H4 D1 c.ints i) ⟨Same.new hD1, FrD.new⟩ (fun i H4 _ z => Same.tup z.1 hp) (fun i x H4 hi z => ?_) (fun H1 z => ?_)
    · obtain ⟨n, rfl, hn⟩ : ∃ n, x = .int n ∧ c.ints[i]? = some n := by
        rw [Cv.tup_ints, List.getElem?_map] at hi
        cases e : c.ints[i]? with
        | none =>
          rw [e] at hi
          cases hi
        | some y =>
          rw [e] at hi
          exact ⟨y, (Option.some.inj hi).symm, rfl⟩
      have hi5 : i < 5 := (List.getElem?_eq_some_iff.mp hn).1
      refine ⟨rfl, _, rfl, (by show 2 ≤ sizeLine; decide), fun t nt => ?_⟩
      obtain ⟨acc, h1, h2, h3⟩ := FrD.push z.2 hn nt (by omega)
      rw [fq_int] at h1 h3
      exact ⟨acc, h1, h2, Same.put (Same.put z.1 (z.1.free nt)) hD1, h3⟩
    obtain ⟨s1, hF1⟩ := z
    obtain ⟨pa1, pa2, pa3, pa4, pa6, gD1, hpa1, hpa2, hpa3, hpa4, hpa6⟩ := hF1.five
    have ho1 := Same.tup s1 ho
    have hv1 := Same.tup s1 hv
    refine ⟨.ref o, rfl, o, rfl, ⟨_, ho1⟩, fun D2 hD2 => ?_⟩
    refine lc_tup (K := K) (a := o) (xs := e.tup) (fun i H4 => Same H1 H4 ∧ FrD H4 D2 e.ints i) ⟨Same.new hD2, FrD.new⟩ (fun i H4 _ z => Same.tup z.1 ho1) (fun i x H4 hi z => ?_) (fun H2 z => ?_)
    · obtain ⟨n, rfl, hn⟩ : ∃ n, x = .int n ∧ e.ints[i]? = some n := by
        rw [Cv.tup_ints, List.getElem?_map] at hi
        cases e : e.ints[i]? with
        | none =>
          rw [e] at hi
          cases hi
        | some y =>
          rw [e] at hi
          exact ⟨y, (Option.some.inj hi).symm, rfl⟩
      have hi5 : i < 5 := (List.getElem?_eq_some_iff.mp hn).1
      refine ⟨rfl, _, rfl, (by show 2 ≤ sizeLine; decide), fun t nt => ?_⟩
      obtain ⟨acc, h1, h2, h3⟩ := FrD.push z.2 hn nt (by omega)
      rw [fq_int] at h1 h3
      exact ⟨acc, h1, h2, Same.put (Same.put z.1 (z.1.free nt)) hD2, h3⟩
    obtain ⟨s2, hF2⟩ := z
    obtain ⟨pd1, pd2, pd3, pd4, pd6, gD2, hpd1, hpd2, hpd3, hpd4, hpd6⟩ := hF2.five
    refine ⟨_, _, rfl, ?_⟩
    have gF := s2 _ _ gD1
    have sA := s1.trans s2
    have E0 : FrE K H2 [(v, u, 160), (pa1, (c.a1 : Rat), 12), (pa2, (c.a2 : Rat), 12), (pa3, (c.a3 : Rat), 12), (pd1, (e.a1 : Rat), 12), (pd2, (e.a2 : Rat), 12), (pd3, (e.a3 : Rat), 12)] :=
      FrE.add (FrE.add (FrE.add (FrE.add (FrE.add (FrE.add (FrE.add FrE.nil (tup_of hpd3) (rb12 he.h3)) (tup_of hpd2) (rb12 he.h2)) (tup_of hpd1) (rb12 he.h1)) (tup_of (s2 _ _ hpa3)) (rb12 hc.h3)) (tup_of (s2 _ _ hpa2)) (rb12 hc.h2)) (tup_of (s2 _ _ hpa1)) (rb12 hc.h1)) (Same.tup s2 hv1) hu
    clear s1 s2 hpa1 hpa2 hpa3 hpa4 hpa6 hpd1 hpd2 hpd3 hpd4 hpd6 gD1 hF1 hF2 ho1 hv1 hD1 hD2
    first | refine sigN [some (.ref p), some (.ref o), some (.ref v), some (.ref D1), some (.ref D2), none, none, none, none] (by rfl) ?_ | refine sig [some (.ref p), some (.ref o), some (.ref v), some (.ref D1), some (.ref D2), none, none, none, none] (by rfl) ?_
    refine ⟨.ref v, rfl, ?_⟩
    refine ⟨.ref D2, rfl, D2, _, 0, .ref pd1, rfl, rfl, lst_of (gD2), rfl, ?_⟩
    refine ⟨v, pd1, _, _, rfl, E0.get (by walk_at "mm"), E0.get (by walk_at "mm"), (E0.rb (p := v) (by walk_at "mm")).up (by decide), (E0.rb (p := pd1) (by walk_at "mm")).up (by decide), trivial, fun t1 nt1 => ?_⟩
    obtain ⟨H3, eH_, s3, E3⟩ := stepE E0 nt1 (RB.mul (E0.rb (p := v) (by walk_at "mm")) (E0.rb (p := pd1) (by walk_at "mm")))
    rw [eH_]
    clear eH_
    refine ⟨.ref D1, rfl, D1, _, 0, .ref pa1, rfl, rfl, lst_of (s3 _ _ gF), rfl, ?_⟩
    refine ⟨t1, pa1, _, _, rfl, E3.get (by walk_at "mm"), E3.get (by walk_at "mm"), (E3.rb (p := t1) (by walk_at "mm")).up (by decide), (E3.rb (p := pa1) (by walk_at "mm")).up (by decide), trivial, fun t2 nt2 => ?_⟩
    obtain ⟨H4, eH_, s4, E4⟩ := stepE E3 nt2 (RB.sub (E3.rb (p := t1) (by walk_at "mm")) (E3.rb (p := pa1) (by walk_at "mm")))
    rw [eH_]
    clear eH_
    refine ⟨(by show 2 ≤ sizeLine; decide), fun t3 nt3 => ?_⟩
    obtain ⟨H5, eH_, s5, E5⟩ := litE E4 nt3 fq_half rb_half
    rw [eH_]
    clear eH_
    refine ⟨t2, t3, _, _, rfl, E5.get (by walk_at "mm"), E5.get (by walk_at "mm"), (E5.rb (p := t2) (by walk_at "mm")).up (by decide), (E5.rb (p := t3) (by walk_at "mm")).up (by decide), trivial, fun t4 nt4 => ?_⟩
    obtain ⟨H6, eH_, s6, E6⟩ := stepE E5 nt4 (RB.mul (E5.rb (p := t2) (by walk_at "mm")) (E5.rb (p := t3) (by walk_at "mm")))
    rw [eH_]
    clear eH_
    have E7 := E6.re (b := cS c e u) (by
      unfold cS
      grind) (cS_B hc he hu)
    have sB := s3.trans (s4.trans (s5.trans s6))
    first | refine sigN [some (.ref p), some (.ref o), some (.ref v), some (.ref D1), some (.ref D2), none, some (.ref t4), none, none] (by rfl) ?_ | refine sig [some (.ref p), some (.ref o), some (.ref v), some (.ref D1), some (.ref D2), none, some (.ref t4), none, none] (by rfl) ?_
    refine ⟨.ref v, rfl, v, u, 160, 2, rfl, E7.get (by walk_at "mm"), hu, by decide, by decide, fun H7 t5 s7 nt5 g5 => ?_⟩
    have E8 := (E7.same s7).add (tup_of g5) (hu.pow 2)
    have sC := sB.trans s7
    refine ⟨.ref D2, rfl, D2, _, 1, .ref pd2, rfl, rfl, lst_of (sC _ _ gD2), rfl, ?_⟩
    refine ⟨t5, pd2, _, _, rfl, E8.get (by walk_at "mm"), E8.get (by walk_at "mm"), (E8.rb (p := t5) (by walk_at "mm")).up (by decide), (E8.rb (p := pd2) (by walk_at "mm")).up (by decide), trivial, fun t6 nt6 => ?_⟩
    obtain ⟨H8, eH_, s8, E9⟩ := stepE E8 nt6 (RB.mul (E8.rb (p := t5) (by walk_at "mm")) (E8.rb (p := pd2) (by walk_at "mm")))
    rw [eH_]
    clear eH_
    have sD := sC.trans s8
    refine ⟨.ref D1, rfl, D1, _, 1, .ref pa2, rfl, rfl, lst_of (sD _ _ gF), rfl, ?_⟩
    refine ⟨t6, pa2, _, _, rfl, E9.get (by walk_at "mm"), E9.get (by walk_at "mm"), (E9.rb (p := t6) (by walk_at "mm")).up (by decide), (E9.rb (p := pa2) (by walk_at "mm")).up (by decide), trivial, fun t7 nt7 => ?_⟩
    obtain ⟨H9, eH_, s9, E10⟩ := stepE E9 nt7 (RB.sub (E9.rb (p := t6) (by walk_at "mm")) (E9.rb (p := pa2) (by walk_at "mm")))
    rw [eH_]
    clear eH_
    have sE := sD.trans s9
    refine ⟨.ref t4, rfl, ?_⟩
    refine ⟨.ref D1, rfl, D1, _, 0, .ref pa1, rfl, rfl, lst_of (sE _ _ gF), rfl, ?_⟩
    refine ⟨t4, pa1, _, _, rfl, E10.get (by walk_at "mm"), E10.get (by walk_at "mm"), (E10.rb (p := t4) (by walk_at "mm")).up (by decide), (E10.rb (p := pa1) (by walk_at "mm")).up (by decide), trivial, fun t8 nt8 => ?_⟩
    obtain ⟨Ha, eH_, sa, E11⟩ := stepE E10 nt8 (RB.mul (E10.rb (p := t4) (by walk_at "mm")) (E10.rb (p := pa1) (by walk_at "mm")))
    rw [eH_]
    clear eH_
    refine ⟨.ref t4, rfl, .ref t4, rfl, ?_⟩
    refine ⟨t4, t4, _, _, rfl, E11.get (by walk_at "mm"), E11.get (by walk_at "mm"), (E11.rb (p := t4) (by walk_at "mm")).up (by decide), (E11.rb (p := t4) (by walk_at "mm")).up (by decide), trivial, fun t9 nt9 => ?_⟩
    obtain ⟨Hb, eH_, sb, E12⟩ := stepE E11 nt9 (RB.mul (E11.rb (p := t4) (by walk_at "mm")) (E11.rb (p := t4) (by walk_at "mm")))
    rw [eH_]
    clear eH_
    refine ⟨t8, t9, _, _, rfl, E12.get (by walk_at "mm"), E12.get (by walk_at "mm"), (E12.rb (p := t8) (by walk_at "mm")).up (by decide), (E12.rb (p := t9) (by walk_at "mm")).up (by decide), trivial, fun t10 nt10 => ?_⟩
    obtain ⟨Hc, eH_, sc, E13⟩ := stepE E12 nt10 (RB.add (E12.rb (p := t8) (by walk_at "mm")) (E12.rb (p := t9) (by walk_at "mm")))
    rw [eH_]
    clear eH_
    refine ⟨t7, t10, _, _, rfl, E13.get (by walk_at "mm"), E13.get (by walk_at "mm"), (E13.rb (p := t7) (by walk_at "mm")).up (by decide), (E13.rb (p := t10) (by walk_at "mm")).up (by decide), trivial, fun t11 nt11 => ?_⟩
    obtain ⟨Hd, eH_, sd, E14⟩ := stepE E13 nt11 (RB.add (E13.rb (p := t7) (by walk_at "mm")) (E13.rb (p := t10) (by walk_at "mm")))
    rw [eH_]
    clear eH_
    first | refine sigN [some (.ref p), some (.ref o), some (.ref v), some (.ref D1), some (.ref D2), none, some (.ref t4), some (.ref t11), none] (by rfl) ?_ | refine sig [some (.ref p), some (.ref o), some (.ref v), some (.ref D1), some (.ref D2), none, some (.ref t4), some (.ref t11), none] (by rfl) ?_
    refine ⟨.ref t11, rfl, ?_⟩
    refine ⟨(by show 2 ≤ sizeLine; decide), fun t12 nt12 => ?_⟩
    obtain ⟨He, eH_, se, E15⟩ := litE E14 nt12 fq_third rb_third
    rw [eH_]
    clear eH_
    refine ⟨t11, t12, _, _, rfl, E15.get (by walk_at "mm"), E15.get (by walk_at "mm"), (E15.rb (p := t11) (by walk_at "mm")).up (by decide), (E15.rb (p := t12) (by walk_at "mm")).up (by decide), trivial, fun t13 nt13 => ?_⟩
    obtain ⟨Hf, eH_, sf, E16⟩ := stepE E15 nt13 (RB.mul (E15.rb (p := t11) (by walk_at "mm")) (E15.rb (p := t12) (by walk_at "mm")))
    rw [eH_]
    clear eH_
    have E17 := E16.re (b := cR c e u) (by
      unfold cR
      grind) (cR_B hc he hu)
    have sF := sE.trans (sa.trans (sb.trans (sc.trans (sd.trans (se.trans sf)))))
    first | refine sigN [some (.ref p), some (.ref o), some (.ref v), some (.ref D1), some (.ref D2), none, some (.ref t4), some (.ref t13), none] (by rfl) ?_ | refine sig [some (.ref p), some (.ref o), some (.ref v), some (.ref D1), some (.ref D2), none, some (.ref t4), some (.ref t13), none] (by rfl) ?_
    refine ⟨.ref v, rfl, v, u, 160, 3, rfl, E17.get (by walk_at "mm"), hu, by decide, by decide, fun Hg t14 sg nt14 g14 => ?_⟩
    have E18 := (E17.same sg).add (tup_of g14) (hu.pow 3)
    have sG := sF.trans sg
    refine ⟨.ref D2, rfl, D2, _, 2, .ref pd3, rfl, rfl, lst_of (sG _ _ gD2), rfl, ?_⟩
    refine ⟨t14, pd3, _, _, rfl, E18.get (by walk_at "mm"), E18.get (by walk_at "mm"), (E18.rb (p := t14) (by walk_at "mm")).up (by decide), (E18.rb (p := pd3) (by walk_at "mm")).up (by decide), trivial, fun t15 nt15 => ?_⟩
    obtain ⟨Hh, eH_, sh, E19⟩ := stepE E18 nt15 (RB.mul (E18.rb (p := t14) (by walk_at "mm")) (E18.rb (p := pd3) (by walk_at "mm")))
    rw [eH_]
    clear eH_
    have sH := sG.trans sh
    refine ⟨.ref D1, rfl, D1, _, 2, .ref pa3, rfl, rfl, lst_of (sH _ _ gF), rfl, ?_⟩
    refine ⟨t15, pa3, _, _, rfl, E19.get (by walk_at "mm"), E19.get (by walk_at "mm"), (E19.rb (p := t15) (by walk_at "mm")).up (by decide), (E19.rb (p := pa3) (by walk_at "mm")).up (by decide), trivial, fun t16 nt16 => ?_⟩
    obtain ⟨Hi, eH_, si, E20⟩ := stepE E19 nt16 (RB.sub (E19.rb (p := t15) (by walk_at "mm")) (E19.rb (p := pa3) (by walk_at "mm")))
    rw [eH_]
    clear eH_
    have sI := sH.trans si
    refine ⟨.ref t13, rfl, ?_⟩
    refine ⟨.ref D1, rfl, D1, _, 0, .ref pa1, rfl, rfl, lst_of (sI _ _ gF), rfl, ?_⟩
    refine ⟨t13, pa1, _, _, rfl, E20.get (by walk_at "mm"), E20.get (by walk_at "mm"), (E20.rb (p := t13) (by walk_at "mm")).up (by decide), (E20.rb (p := pa1) (by walk_at "mm")).up (by decide), trivial, fun t17 nt17 => ?_⟩
    obtain ⟨Hj, eH_, sj, E21⟩ := stepE E20 nt17 (RB.mul (E20.rb (p := t13) (by walk_at "mm")) (E20.rb (p := pa1) (by walk_at "mm")))
    rw [eH_]
    clear eH_
    refine ⟨t16, t17, _, _, rfl, E21.get (by walk_at "mm"), E21.get (by walk_at "mm"), (E21.rb (p := t16) (by walk_at "mm")).up (by decide), (E21.rb (p := t17) (by walk_at "mm")).up (by decide), trivial, fun t18 nt18 => ?_⟩
    obtain ⟨Hk, eH_, sk, E22⟩ := stepE E21 nt18 (RB.sub (E21.rb (p := t16) (by walk_at "mm")) (E21.rb (p := t17) (by walk_at "mm")))
    rw [eH_]
    clear eH_
    first | refine sigN [some (.ref p), some (.ref o), some (.ref v), some (.ref D1), some (.ref D2), none, some (.ref t4), some (.ref t13), some (.ref t18)] (by rfl) ?_ | refine sig [some (.ref p), some (.ref o), some (.ref v), some (.ref D1), some (.ref D2), none, some (.ref t4), some (.ref t13), some (.ref t18)] (by rfl) ?_
    refine ⟨.ref v, rfl, .ref t13, rfl, .ref t4, rfl, .ref t18, rfl, ?_⟩
    refine ⟨(by show 2 ≤ sizeLine; decide), fun t19 nt19 => ?_⟩
    obtain ⟨Hl, eH_, sl, E23⟩ := litE E22 nt19 fq_half rb_half
    rw [eH_]
    clear eH_
    refine ⟨t18, t19, _, _, rfl, E23.get (by walk_at "mm"), E23.get (by walk_at "mm"), (E23.rb (p := t18) (by walk_at "mm")).up (by decide), (E23.rb (p := t19) (by walk_at "mm")).up (by decide), trivial, fun t20 nt20 => ?_⟩
    obtain ⟨Hm, eH_, sm, E24⟩ := stepE E23 nt20 (RB.mul (E23.rb (p := t18) (by walk_at "mm")) (E23.rb (p := t19) (by walk_at "mm")))
    rw [eH_]
    clear eH_
    have E25 := E24.re (b := cT c e u) (by
      unfold cT
      grind) (cT_B hc he hu)
    refine ⟨(by show 4 ≤ sizeLine; decide), fun tz nz => ?_⟩
    have sZ := Same.new (H := Hm) (p := tz) (o := .tup [.ref v, .ref t13, .ref t4, .ref t20]) nz
    have E26 := E25.same sZ
    refine q _ tz (sA.trans (sI.trans (sj.trans (sk.trans (sl.trans (sm.trans sZ)))))) (dp_ch upd_same (E26.get (by walk_at "mm")) (E26.get (by walk_at "mm")) (E26.get (by walk_at "mm")) (E26.get (by walk_at "mm")))
def sp_law_due : PySem.W.Frag → Sp := spBoth
abbrev s__law_due : Stmt := topS 41
theorem sc__law_due : FnScope ["five_v", "other", "u", "sign"] ["five_v", "other"] (defScope s__law_due) := ⟨rfl, rfl, rfl, by decide +kernel, rfl, by decide +kernel, by decide +kernel⟩
theorem k_law_due (T : Tx K mg) (D : Df K mg "_law_due" s__law_due ["five_v", "other"]) (c_law_u : Kl P w K mg base 5 "_law_u" (sp_law_u K)) (c_law_change_of : Kl P w K mg base 5 "_law_change_of" (sp_law_change_of K)) : Kl P w K mg base 6 "_law_due" (sp_law_due K) := by
  have nd := sc__law_due.nd
  refine Kl.by_body D sc__law_due (fun vs H Q E h => ?_) (fun f cdv A outer s H vs Q E hr h => ?_)
  · obtain ⟨_, _, _, _, rfl, _⟩ := h
    rfl
  · obtain ⟨p, o, c, e, rfl, hp, ho, hc, he, nc, ne, q1, q2⟩ := h
    have hu1 := hu_of hr
    refine ⟨_, (pss_cons (ps_set (i := 2) nd rfl (by first | exact Or.inl rfl | exact Or.inr rfl) (pe_k c_law_u  hr (by decide) (by rfl) (pa_cons (pv 0) (pa_cons (pv 1) pa_nil))))
      (pss_cons (ps_if (pt_cmpR op_isN (pv 2) pe_non (nomark _)) (pss_one (ps_ret (pe_tup pa_nil))) pss_nil)
      (pss_one (ps_ret (pe_callTy call_tuple_of (by rfl) T.tuple (by decide +kernel) (pa_cons (pe_lc (own := [("sign", 3)]) (g := gName 3) rfl nd (pi_tup (pe_tup (pa_cons (pv 2) (pa_cons (pe_tup (pa_cons (pe_un un_neg (pe_ix ix_tup (pv 2) pe_int (fun _ _ => rfl))) (pa_cons (pe_ix ix_tup (pv 2) pe_int (fun _ _ => rfl)) pa_nil))) pa_nil)))) (blkOk_by (N := ["five_v", "other", "u", "sign"]) (sc := defScope s__law_due) (by decide +kernel)) (fun _ _ _ _ _ => (pg_name (i := 3) nd rfl (by first | exact Or.inl rfl | exact Or.inr rfl))) (fun _ _ _ _ _ => pts_nil) (fun _ _ _ _ _ => (pe_k c_law_change_of  hr (by decide) (by rfl) (pa_cons (pv 0) (pa_cons (pv 1) (pa_cons (pv 3) pa_nil)))))) pa_nil)))))), ?_⟩
    refine ⟨.ref p, rfl, .ref o, rfl, p, o, c, e, rfl, hp, ho, hc, he, nc, ne, fun u H1 t hu ub s1 gt => ?_, fun H1 no s1 => ?_⟩
    · refine ⟨_, rfl, rfl, _, rfl, iteF ?_⟩
      refine ⟨.ref t, rfl, .ref t, rfl, t, _, 0, .int u.num, rfl, rfl, tup_of gt, rfl, _, rfl, .ref t, rfl, t, _, 1, .int (u.den : Int), rfl, rfl, tup_of gt, rfl, (by show 2 ≤ sizeLine; decide), fun v nv => ?_⟩
      have sv := Same.new (H := H1) (p := v) (o := .tup [.int (-u.num), .int (u.den : Int)]) nv
      have gv : SqT K (upd H1 v (.tup [.int (-u.num), .int (u.den : Int)])) v (fq (-u)) := by
        rw [← fq_neg]
        exact tup_of upd_same
      refine ⟨(by show 2 ≤ sizeLine; decide), fun tp ntp => ?_⟩
      have sp := Same.new (o := .tup [.ref t, .ref v]) ntp
      refine ⟨tp, rfl, ⟨_, tup_of upd_same⟩, fun D hD => ?_⟩
      have s2 := sv.trans sp
      have gtp : (upd (upd H1 v (.tup [.int (-u.num), .int (u.den : Int)])) tp (.tup [.ref t, .ref v])) tp = some (.tup [.ref t, .ref v]) := upd_same
      have gvp := Same.tup sp gv
      have gt2 := s2 _ _ gt
      have sB := s1.trans s2
      generalize upd (upd H1 v (.tup [.int (-u.num), .int (u.den : Int)])) tp (.tup [.ref t, .ref v]) = H2 at hD gtp gvp gt2 sB ⊢
      refine lc_tup (K := K) (a := tp) (xs := [.ref t, .ref v]) (fun i H4 => Same H2 H4 ∧ ∃ L : List V, H4 D = some (.lst L) ∧ L.length = i ∧ DpAll K H4 L ([dch c e u, dch c e (-u)].take i)) ⟨Same.new hD, [], upd_same, rfl, .nil⟩ (fun i H4 _ z => tup_of (z.1 _ _ gtp)) (fun i x H4 hi z => ?_) (fun H4 z => ?_)
      · obtain ⟨s4, L, hL, el, dL⟩ := z
        match i, hi with
        | 0, hi =>
          obtain rfl := Option.some.inj hi
          refine ⟨rfl, .ref p, rfl, .ref o, rfl, .ref t, rfl, p, o, t, c, e, u, rfl, Same.tup (sB.trans s4) hp, Same.tup (sB.trans s4) ho, hc, he, tup_of (s4 _ _ gt2), ub.up (by decide), fun H5 a s5 da => ?_⟩
          refine ⟨L, s5 _ _ hL, small1000 (by omega), Same.put (s4.trans s5) hD, L ++ [.ref a], upd_same, by rw [List.length_append, el]; rfl, ?_⟩
          obtain rfl := List.length_eq_zero_iff.mp el
          exact .cons (dp_put (s5 _ _ hL) _ _ rfl da) .nil
        | 1, hi =>
          obtain rfl := Option.some.inj hi
          refine ⟨rfl, .ref p, rfl, .ref o, rfl, .ref v, rfl, p, o, v, c, e, -u, rfl, Same.tup (sB.trans s4) hp, Same.tup (sB.trans s4) ho, hc, he, Same.tup s4 gvp, (ub.up (by decide)).neg, fun H5 a s5 da => ?_⟩
          refine ⟨L, s5 _ _ hL, small1000 (by omega), Same.put (s4.trans s5) hD, L ++ [.ref a], upd_same, by rw [List.length_append, el]; rfl, ?_⟩
          match L, el, dL with
          | [x1], _, dL =>
            cases dL with
            | cons d1 _ => exact .cons (dp_put (s5 _ _ hL) _ _ rfl (dp_same s5 _ _ d1)) (.cons (dp_put (s5 _ _ hL) _ _ rfl da) .nil)
      · obtain ⟨s4, L, hL, el, dL⟩ := z
        refine ⟨D, L, rfl, .inl ⟨lst_of hL, fun f nf => ?_⟩⟩
        have sf := Same.new (o := .tup L) nf
        exact q1 u _ f hu (ub.up (by decide)) (sB.trans (s4.trans sf)) (.tup (tup_of upd_same) (dp_sameAll sf _ _ dL))
    · refine ⟨_, rfl, rfl, _, rfl, iteT ?_⟩
      refine ⟨(by show 0 ≤ sizeLine; decide), fun z nz => ?_⟩
      exact q2 _ z no (s1.trans (Same.new nz)) (.tup (tup_of upd_same) .nil)
end
end K07
set_option Elab.async false
set_option linter.all false
set_option maxRecDepth 100000
set_option maxHeartbeats 4000000
namespace K07
open PySem PySem.Spec PyProof.Rows L2 Gd QM
section
variable {P : Program} {w : World} {K : PySem.W.Frag} {mg : Str → Option Value} {base : Heap}
/-! ### one draw -/
def sp_law_draw (K : PySem.W.Frag) : Sp := fun vs H Q _ => ∃ (m cl : Addr) (b : Int) (n : Nat), vs = [.ref m, .int b] ∧ 0 < b ∧ b < 1073741824 ∧ n ≤ 1000000 ∧ MAt H m cl n ∧ ∀ H' r, But m H H' → MAt H' m cl (n + 1) → 0 ≤ r → r < b → Q (.int r) H'
abbrev s__law_draw : Stmt := topS 25
theorem sc__law_draw : FnScope ["m", "below", "found", "spot", "cells", "extra", "cell", "blend"] ["m", "below"] (defScope s__law_draw) := ⟨rfl, rfl, rfl, by decide +kernel, rfl, by decide +kernel, by decide +kernel⟩
theorem k_law_draw (T : Tx K mg) (D : Df K mg "_law_draw" s__law_draw ["m", "below"])  : Kl P w K mg base 1 "_law_draw" (sp_law_draw K) := by
  have nd := sc__law_draw.nd
  refine Kl.by_body D sc__law_draw (fun vs H Q E h => ?_) (fun f cdv A outer s H vs Q E hr h => ?_)
  · obtain ⟨_, _, _, _, rfl, _⟩ := h
    rfl
  · obtain ⟨m, c, b, n, rfl, hb0, hb1, hn, ⟨L, s0, cs, k, hm, hk, hc, hl⟩, q⟩ := h
    have hu1 := hu_of hr
    refine ⟨_, (pss_cons (ps_if (pt_cmpR op_gt (pe_dget hu1 (pv 0) pe_str (fun _ _ => rfl)) pe_int (nomark _)) (pss_cons (ps_set (i := 2) nd rfl (by first | exact Or.inl rfl | exact Or.inr rfl) (pe_op op_mod (pe_callTy call_intI (by rfl) T.int (by decide +kernel) (pa_cons (pe_dget hu1 (pv 0) pe_str (fun _ _ => rfl)) pa_nil)) (pv 1)))
      (pss_cons (ps_dput hu1 (pv 0) pe_str (pe_op op_fdivN (pe_dget hu1 (pv 0) pe_str (fun _ _ => rfl)) (pv 1)) rfl)
      (pss_one (ps_ret (pv 2))))) pss_nil)
      (pss_cons (ps_set (i := 3) nd rfl (by first | exact Or.inl rfl | exact Or.inr rfl) (pe_dget hu1 (pv 0) pe_str (fun _ _ => rfl)))
      (pss_cons (ps_dput hu1 (pv 0) pe_str (pe_op op_add (pv 3) pe_int) rfl)
      (pss_cons (ps_par (i := 4) (j := 5) (by rfl) nd rfl rfl (by decide) rfl rfl (pa_cons (pe_dget hu1 (pv 0) pe_str (fun _ _ => rfl)) (pa_cons (pe_op op_add (pe_dget hu1 (pv 0) pe_str (fun _ _ => rfl)) (pe_op op_mulW (pe_op op_mul pe_int (pv 3)) (pv 3))) pa_nil)) (by rfl))
      (pss_cons (ps_set (i := 6) nd rfl (by first | exact Or.inl rfl | exact Or.inr rfl) (pe_ix ix_list (pv 4) (pe_op op_mod (pe_callTy call_intI (by rfl) T.int (by decide +kernel) (pa_cons (pv 3) pa_nil)) (pe_callB call_len_seq (by rfl) T.len (by decide +kernel) (pa_cons (pv 4) pa_nil))) (fun _ _ => rfl)))
      (pss_cons (ps_set (i := 7) nd rfl (by first | exact Or.inl rfl | exact Or.inr rfl) (pe_op op_mod (pe_callTy call_intI (by rfl) T.int (by decide +kernel) (pa_cons (pe_op op_add (pe_op op_mul (pv 6) (pe_op op_add (pe_op op_mul pe_int (pv 3)) pe_int)) (pv 5)) pa_nil)) pe_int))
      (pss_cons (ps_set (i := 7) nd rfl (by first | exact Or.inl rfl | exact Or.inr rfl) (pe_op op_mod (pe_callTy call_intI (by rfl) T.int (by decide +kernel) (pa_cons (pe_op op_add (pe_op op_add (pe_op op_mul (pv 7) (pv 7)) (pe_op op_mul pe_int (pv 3))) (pe_dget hu1 (pv 0) pe_str (fun _ _ => rfl))) pa_nil)) pe_int))
      (pss_one (ps_ret (pe_op op_mod (pe_op op_fdiv (pe_op op_mod (pe_callTy call_intI (by rfl) T.int (by decide +kernel) (pa_cons (pe_op op_add (pe_op op_mul (pv 7) pe_int) (pv 3)) pa_nil)) pe_int) pe_int) (pv 1))))))))))), ?_⟩
    have gL : DGet H m (.str "left") (some (.int L)) := m4_left (L := L) ▸ DGet.k (k := Sum.inr "left") hm
    have ncm : c ≠ m := ne_of hc hm (by intro z; cases z)
    refine ⟨_, rfl, m, _, rfl, gL, _, _, rfl, rfl, _, rfl, ite2 (fun e => ?_) (fun e => ?_)⟩
    · refine ⟨_, rfl, m, _, rfl, gL, _, rfl, _, rfl, _, _, rfl, rfl, hb0, ?_⟩
      refine ⟨_, rfl, m, _, rfl, gL, _, rfl, _, _, rfl, rfl, ⟨by omega, by omega⟩, _, rfl, m, _, rfl, DPut.k (k := Sum.inr "left") hm (small1000 (by show 4 ≤ 1000; decide)), ?_⟩
      rw [m4_putL]
      refine ⟨_, rfl, ?_⟩
      refine q _ _ But.upd ⟨_, s0, cs, k, upd_same, by omega, ?_, hl⟩ (Int.emod_nonneg _ (by omega)) (Int.emod_lt_of_pos _ hb0)
      rw [upd_ne ncm]
      exact hc
    · have gS : DGet H m (.str "spot") (some (.int k)) := m4_spot (n := k) ▸ DGet.k (k := Sum.inr "spot") hm
      refine ⟨_, rfl, m, _, rfl, gS, ?_⟩
      refine ⟨_, rfl, _, _, rfl, rfl, _, rfl, m, _, rfl, DPut.k (k := Sum.inr "spot") hm (small1000 (by show 4 ≤ 1000; decide)), ?_⟩
      rw [m4_putS]
      have hm2 : (upd H m (HO.dK (mk4 L s0 c (k + 1)))) m = some (.dK (mk4 L s0 c (k + 1))) := upd_same
      have hc2 : (upd H m (HO.dK (mk4 L s0 c (k + 1)))) c = some (.lst (cs.map V.int)) := by
        rw [upd_ne ncm]
        exact hc
      have bt : But m H (upd H m (HO.dK (mk4 L s0 c (k + 1)))) := But.upd
      generalize upd H m (HO.dK (mk4 L s0 c (k + 1))) = H2 at hm2 hc2 bt ⊢
      have gC : DGet H2 m (.str "cells") (some (.ref c)) := m4_cells (c := c) ▸ DGet.k (k := Sum.inr "cells") hm2
      have gE : DGet H2 m (.str "seed") (some (.int s0)) := m4_seed (s := s0) ▸ DGet.k (k := Sum.inr "seed") hm2
      have bk : B 20 (k : Int) := by
        unfold B
        omega
      refine ⟨_, rfl, m, _, rfl, gC, _, rfl, m, _, rfl, gE, _, rfl, _, _, rfl, rfl, (Or.inl ⟨by decide, by decide⟩), _, rfl, _, _, rfl, rfl, ((B.lit (n := 20) (by decide)).mul bk).mulW bk (by decide), _, _, rfl, rfl, _, _, rfl, ?_⟩
      have hlz : (0 : Int) < ((cs.map V.int).length : Int) := by
        rw [List.length_map]
        omega
      have hix : ∃ z : Int, atI (cs.map V.int) ((k : Int) % ((cs.map V.int).length : Int)) = some (.int z) := by
        rw [List.length_map]
        have h1 : k % cs.length < cs.length := Nat.mod_lt _ hl
        refine ⟨cs[k % cs.length], ?_⟩
        rw [← Int.natCast_emod]
        refine atI_nat ?_
        rw [List.getElem?_map, List.getElem?_eq_getElem h1]
        rfl
      obtain ⟨z, hz⟩ := hix
      refine ⟨_, rfl, _, rfl, _, rfl, _, rfl, c, _, rfl, .inl (.inl (.inl hc2)), _, _, rfl, rfl, hlz, c, _, _, _, rfl, rfl, .inl (.inl hc2), hz, ?_⟩
      have bk2 : B 30 (2 * (k : Int) + 3) := by
        unfold B
        omega
      refine ⟨_, rfl, _, rfl, _, _, rfl, rfl, (Or.inl ⟨by decide, by decide⟩), _, _, rfl, rfl, _, _, rfl, rfl, bk2.mulR (by decide), _, rfl, _, _, rfl, rfl, _, rfl, _, _, rfl, rfl, (by show (0 : Int) < 2147483647; decide), ?_⟩
      have be : ∀ y : Int, B 32 (y % 2147483647) := fun y => by
        have h1 := Int.emod_nonneg y (show (2147483647 : Int) ≠ 0 by decide)
        have h2 := Int.emod_lt_of_pos y (show (0 : Int) < 2147483647 by decide)
        unfold B
        omega
      refine ⟨_, rfl, _, rfl, _, _, rfl, rfl, (be _).mulR (by decide), _, rfl, _, _, rfl, rfl, (Or.inl ⟨by decide, by decide⟩), _, _, rfl, rfl, _, rfl, m, _, rfl, gE, _, _, rfl, rfl, _, rfl, _, _, rfl, rfl, (by show (0 : Int) < 2147483629; decide), ?_⟩
      refine ⟨_, rfl, _, _, rfl, rfl, (Or.inr ⟨by decide, by decide⟩), _, rfl, _, _, rfl, rfl, _, rfl, _, _, rfl, rfl, (by show (0 : Int) < 2147483647; decide), _, _, rfl, rfl, ⟨by decide, by decide⟩, _, rfl, _, _, rfl, rfl, hb0, ?_⟩
      exact q _ _ bt ⟨L, s0, cs, k + 1, hm2, by omega, hc2, hl⟩ (Int.emod_nonneg _ (by omega)) (Int.emod_lt_of_pos _ hb0)
/-! ### one of some -/
def sp_law_of (K : PySem.W.Frag) : Sp := fun vs H Q _ => ∃ (m cl a : Addr) (xs : List V) (n : Nat), vs = [.ref m, .ref a] ∧ SqL K H a xs ∧ 0 < xs.length ∧ xs.length ≤ 1000 ∧ n ≤ 1000000 ∧ MAt H m cl n ∧ ∀ H' x, But m H H' → MAt H' m cl (n + 1) → x ∈ xs → Q x H'
abbrev s__law_of : Stmt := topS 26
theorem sc__law_of : FnScope ["m", "some"] ["m", "some"] (defScope s__law_of) := ⟨rfl, rfl, rfl, by decide +kernel, rfl, by decide +kernel, by decide +kernel⟩
theorem k_law_of (T : Tx K mg) (D : Df K mg "_law_of" s__law_of ["m", "some"]) (c_law_draw : Kl P w K mg base 1 "_law_draw" (sp_law_draw K)) : Kl P w K mg base 2 "_law_of" (sp_law_of K) := by
  have nd := sc__law_of.nd
  refine Kl.by_body D sc__law_of (fun vs H Q E h => ?_) (fun f cdv A outer s H vs Q E hr h => ?_)
  · obtain ⟨_, _, _, _, _, rfl, _⟩ := h
    rfl
  · obtain ⟨m, cl, a, xs, n, rfl, hx, h0, h1, hn, hM, q⟩ := h
    have hu1 := hu_of hr
    refine ⟨_, (pss_one (ps_ret (pe_ix ix_list (pv 1) (pe_k c_law_draw  hr (by decide) (by rfl) (pa_cons (pv 0) (pa_cons (pe_callB call_len_seq (by rfl) T.len (by decide +kernel) (pa_cons (pv 1) pa_nil)) pa_nil))) (fun _ _ => rfl)))), ?_⟩
    refine ⟨.ref a, rfl, _, rfl, .ref a, rfl, a, xs, rfl, .inl hx, m, cl, _, n, rfl, by omega, by omega, hn, hM, fun H1 r b1 m1 r0 r1 => ?_⟩
    have hr1 : r.toNat < xs.length := by omega
    refine ⟨a, xs, r, xs[r.toNat], rfl, rfl, b1.seqL hM hx, ?_, q _ _ b1 m1 (List.getElem_mem hr1)⟩
    have key : atI xs ((r.toNat : Nat) : Int) = some xs[r.toNat] := atI_nat (List.getElem?_eq_getElem hr1)
    rw [show ((r.toNat : Nat) : Int) = r by omega] at key
    exact key
/-! ### between -/
def sp_law_between (K : PySem.W.Frag) : Sp := fun vs H Q _ => ∃ (m cl : Addr) (z : Int) (n : Nat), vs = [.ref m, .int z] ∧ 0 ≤ z ∧ z ≤ 100000 ∧ n ≤ 1000000 ∧ MAt H m cl n ∧ ∀ H' r, But m H H' → MAt H' m cl (n + 1) → -z ≤ r → r ≤ z → Q (.int r) H'
abbrev s__law_between : Stmt := topS 27
theorem sc__law_between : FnScope ["m", "size"] ["m", "size"] (defScope s__law_between) := ⟨rfl, rfl, rfl, by decide +kernel, rfl, by decide +kernel, by decide +kernel⟩
theorem k_law_between (T : Tx K mg) (D : Df K mg "_law_between" s__law_between ["m", "size"]) (c_law_draw : Kl P w K mg base 1 "_law_draw" (sp_law_draw K)) : Kl P w K mg base 2 "_law_between" (sp_law_between K) := by
  have nd := sc__law_between.nd
  refine Kl.by_body D sc__law_between (fun vs H Q E h => ?_) (fun f cdv A outer s H vs Q E hr h => ?_)
  · obtain ⟨_, _, _, _, rfl, _⟩ := h
    rfl
  · obtain ⟨m, cl, z, n, rfl, h0, h1, hn, hM, q⟩ := h
    have hu1 := hu_of hr
    refine ⟨_, (pss_one (ps_ret (pe_op op_sub (pe_k c_law_draw  hr (by decide) (by rfl) (pa_cons (pv 0) (pa_cons (pe_op op_add (pe_op op_mul pe_int (pv 1)) pe_int) pa_nil))) (pv 1)))), ?_⟩
    refine ⟨_, rfl, _, rfl, _, _, rfl, rfl, (Or.inl ⟨by decide, by decide⟩), _, _, rfl, rfl, m, cl, _, n, rfl, by omega, by omega, hn, hM, fun H1 r b1 m1 r0 r1 => ?_⟩
    refine ⟨_, rfl, _, _, rfl, rfl, ?_⟩
    exact q _ _ b1 m1 (by omega) (by omega)
/-! ### the state of a turn -/
def sp_law_begun (K : PySem.W.Frag) : Sp := fun vs H Q _ => ∃ (a : Addr) (k : Int) (ns : List Int), vs = [.ref a, .int k] ∧ SqL K H a (ns.map V.int) ∧ ns.length ≤ 63 ∧ 0 ≤ k ∧ k ≤ 100 ∧ ∀ H' m cl, Same H H' → H m = none → H cl = none → MAt H' m cl 0 → Q (.ref m) H'
theorem cut_int {ns : List Int} (lo hi : Option Int) : ∃ ms : List Int, cutV (ns.map V.int) lo hi = ms.map V.int ∧ ms.length ≤ ns.length := by
  unfold cutV
  refine ⟨(ns.drop (HT.sIx (ns.map V.int).length 0 lo)).take (HT.sIx (ns.map V.int).length (ns.map V.int).length hi - HT.sIx (ns.map V.int).length 0 lo), ?_, ?_⟩
  · rw [List.map_take, List.map_drop]
  · rw [List.length_take, List.length_drop]
    omega
abbrev s__law_begun : Stmt := topS 24
theorem sc__law_begun : FnScope ["script", "k", "cells", "great", "cell", "begun", "left"] ["script", "k"] (defScope s__law_begun) := ⟨rfl, rfl, rfl, by decide +kernel, rfl, by decide +kernel, by decide +kernel⟩
theorem k_law_begun (T : Tx K mg) (D : Df K mg "_law_begun" s__law_begun ["script", "k"])  : Kl P w K mg base 1 "_law_begun" (sp_law_begun K) := by
  have nd := sc__law_begun.nd
  refine Kl.by_body D sc__law_begun (fun vs H Q E h => ?_) (fun f cdv A outer s H vs Q E hr h => ?_)
  · obtain ⟨_, _, _, rfl, _⟩ := h
    rfl
  · obtain ⟨a, k, ns, rfl, hx, hl, hk0, hk1, q⟩ := h
    have hu1 := hu_of hr
    refine ⟨_, (pss_cons (ps_set (i := 2) nd rfl (by first | exact Or.inl rfl | exact Or.inr rfl) (pe_op op_cat (pe_slice sl_list (pv 0) (po_some (pv 1)) po_none) (pe_slice sl_list (pv 0) po_none (po_some (pv 1)))))
      (pss_cons (ps_setLc (i := 3) (own := [("cell", 4)]) (g := gName 4) rfl nd rfl rfl (sw_true rfl rfl rfl (by decide +kernel)) (pi_list (pv 0)) (blkOk_by (N := ["script", "k", "cells", "great", "cell", "begun", "left"]) (sc := defScope s__law_begun) (by decide +kernel)) (fun _ _ _ _ _ => (pg_name (i := 4) nd rfl (by first | exact Or.inl rfl | exact Or.inr rfl))) (fun _ _ _ _ _ => (pts_one (pt_cmpR op_ge (pv 4) (pe_op op_pow pe_int pe_int) (nomark _)))) (fun _ _ _ _ _ => (pv 4)))
      (pss_cons (ps_set (i := 5) nd rfl (by first | exact Or.inl rfl | exact Or.inr rfl) (pe_op op_add pe_int (pe_op op_mul pe_int (pv 1))))
      (pss_cons (ps_for PassesOwn.never rfl (pi_list (pv 2)) (pg_name (i := 4) nd rfl (by first | exact Or.inl rfl | exact Or.inr rfl)) (pss_one (ps_set (i := 5) nd rfl (by first | exact Or.inl rfl | exact Or.inr rfl) (pe_op op_mod (pe_callTy call_intI (by rfl) T.int (by decide +kernel) (pa_cons (pe_op op_add (pe_op op_mul (pv 5) pe_int) (pv 4)) pa_nil)) pe_int))))
      (pss_cons (ps_set (i := 6) nd rfl (by first | exact Or.inl rfl | exact Or.inr rfl) (pe_ifExp (pt_cmpR op_lt (pv 1) (pe_callB call_len_seq (by rfl) T.len (by decide +kernel) (pa_cons (pv 3) pa_nil)) (nomark _)) (pe_ix ix_list (pv 3) (pv 1) (fun _ _ => rfl)) pe_int))
      (pss_one (ps_ret (pe_disp (pps_cons pe_str (pv 6) (pps_cons pe_str (pv 5) (pps_cons pe_str (pe_op op_cat (pv 2) (pe_lst (pa_cons (pe_op op_add (pe_op op_mul pe_int (pv 1)) pe_int) pa_nil))) (pps_cons pe_str pe_int pps_nil)))) (by rfl) (by rfl) (fun z => by cases z) (by decide))))))))), ?_⟩
    obtain ⟨m1, e1, l1⟩ := cut_int (ns := ns) (some k) none
    obtain ⟨m2, e2, l2⟩ := cut_int (ns := ns) none (some k)
    refine ⟨.ref a, rfl, _, rfl, k, rfl, a, _, rfl, hx, fun p1 n1 => ?_⟩
    rw [e1]
    have s1 : Same H (upd H p1 (.lst (m1.map V.int))) := Same.new n1
    have g1 : (upd H p1 (.lst (m1.map V.int))) p1 = some (.lst (m1.map V.int)) := upd_same
    generalize upd H p1 (.lst (m1.map V.int)) = H1 at s1 g1 ⊢
    refine ⟨.ref a, rfl, _, rfl, k, rfl, a, _, rfl, s1.seq hx, fun p2 n2 => ?_⟩
    rw [e2]
    have s2 : Same H1 (upd H1 p2 (.lst (m2.map V.int))) := Same.new n2
    have g2 : (upd H1 p2 (.lst (m2.map V.int))) p2 = some (.lst (m2.map V.int)) := upd_same
    generalize upd H1 p2 (.lst (m2.map V.int)) = H2 at s2 g2 ⊢
    refine ⟨p1, p2, _, _, rfl, rfl, s2 _ _ g1, g2, ?_, fun p3 n3 => ?_⟩
    · rw [List.length_map, List.length_map]
      exact small (by omega)
    rw [← List.map_append]
    have s3 : Same H2 (upd H2 p3 (.lst ((m1 ++ m2).map V.int))) := Same.new n3
    have g3 : (upd H2 p3 (.lst ((m1 ++ m2).map V.int))) p3 = some (.lst ((m1 ++ m2).map V.int)) := upd_same
    have hl3 : (m1 ++ m2).length ≤ 126 := by
      rw [List.length_append]
      omega
    generalize m1 ++ m2 = cs at s3 g3 hl3 ⊢
    generalize upd H2 p3 (.lst (cs.map V.int)) = H3 at s3 g3 ⊢
    have sA : Same H H3 := (s1.trans s2).trans s3
    clear s1 s2 s3 g1 g2
    first | refine sigN [some (.ref a), some (.int (k)), some (V.ref p3), none, none, none, none] (by rfl) ?_ | refine sig [some (.ref a), some (.int (k)), some (V.ref p3), none, none, none, none] (by rfl) ?_
    refine ⟨.ref a, rfl, a, rfl, ⟨_, sA.seq hx⟩, fun D hD => ?_⟩
    refine lc_list (K := K) (a := a) (xs := ns.map V.int) (fun i H4 => Same H3 H4 ∧ ∃ gs : List Int, H4 D = some (.lst (gs.map V.int)) ∧ gs.length ≤ i) ⟨Same.new hD, [], upd_same, Nat.le_refl _⟩ (fun i H4 _ z => (sA.trans z.1).seq hx) (fun i x H4 hi z => ?_) (fun H4 z => ?_)
    · obtain ⟨s4, gs, g4, l4⟩ := z
      obtain ⟨y, rfl⟩ : ∃ y : Int, x = .int y := by
        rw [List.getElem?_map] at hi
        cases e : ns[i]? with
        | none =>
          rw [e] at hi
          cases hi
        | some y =>
          rw [e] at hi
          exact ⟨y, (Option.some.inj hi).symm⟩
      have hi2 : i < ns.length := by
        have h1 := (List.getElem?_eq_some_iff.mp hi).1
        rw [List.length_map] at h1
        exact h1
      refine ⟨rfl, _, rfl, _, _, rfl, rfl, ⟨by decide, by decide, by decide⟩, _, _, rfl, rfl, _, rfl, ite2 (fun _ => ?_) (fun _ => ?_)⟩
      · refine ⟨_, rfl, _, g4, ?_, Same.put s4 hD, gs ++ [y], ?_, ?_⟩
        · rw [List.length_map]
          exact small1000 (by omega)
        · rw [upd_same, List.map_append]
          rfl
        · rw [List.length_append]
          exact Nat.add_le_add_right l4 1
      · exact ⟨s4, gs, g4, Nat.le_succ_of_le l4⟩
    · obtain ⟨s4, gs, g4, l4⟩ := z
      have sB : Same H H4 := sA.trans s4
      have g3' := s4 _ _ g3
      refine ⟨_, rfl, _, _, rfl, rfl, (Or.inl ⟨by decide, by decide⟩), _, _, rfl, rfl, ?_⟩
      first | refine sigN [some (.ref a), some (.int (k)), some (V.ref p3), some (V.ref D), none, some (.int (61 + 9 * k)), none] (by rfl) ?_ | refine sig [some (.ref a), some (.int (k)), some (V.ref p3), some (V.ref D), none, some (.int (61 + 9 * k)), none] (by rfl) ?_
      refine ⟨_, rfl, p3, rfl, ⟨_, .inl (.inl g3')⟩, for_list (K := K) (a := p3) (xs := cs.map V.int) (fun i σ H5 => H5 = H4 ∧ ∃ (y : Int) (v : Option V), σ = [some (.ref a), some (.int k), some (.ref p3), some (.ref D), v, some (.int y), none]) ⟨rfl, _, none, rfl⟩ (fun i σ H5 _ z => by rw [z.1]; exact .inl (.inl g3')) ?_ ?_⟩
      · rintro i x σ H5 hi ⟨rfl, y, v, rfl⟩
        obtain ⟨t, rfl⟩ : ∃ t : Int, x = .int t := by
          rw [List.getElem?_map] at hi
          cases e : cs[i]? with
          | none =>
            rw [e] at hi
            cases hi
          | some t =>
            rw [e] at hi
            exact ⟨t, (Option.some.inj hi).symm⟩
        refine ⟨_, rfl, _, _, rfl, rfl, (Or.inr ⟨by decide, by decide⟩), _, rfl, _, _, rfl, rfl, _, rfl, _, _, rfl, rfl, (by show (0 : Int) < 2147483647; decide), ?_⟩
        exact ⟨rfl, _, _, rfl⟩
      · rintro σ H5 ⟨rfl, y, v, rfl⟩
        refine ⟨_, rfl, _, rfl, D, _, rfl, .inl (.inl (.inl g4)), _, _, rfl, rfl, _, rfl, ite2 (fun e => ?A) (fun e => ?B)⟩
        case' A =>
          have e' : k < ((gs.map V.int).length : Int) := of_decide_eq_true e
          rw [List.length_map] at e'
          have hk2 : k.toNat < gs.length := by omega
          have hz : atI (gs.map V.int) k = some (.int gs[k.toNat]) := by
            have key : atI (gs.map V.int) ((k.toNat : Nat) : Int) = some (.int gs[k.toNat]) := atI_nat (by
              rw [List.getElem?_map, List.getElem?_eq_getElem hk2]
              rfl)
            rw [show ((k.toNat : Nat) : Int) = k by omega] at key
            exact key
          refine ⟨_, rfl, _, rfl, D, _, _, _, rfl, rfl, .inl (.inl g4), hz, ?_⟩
        all_goals
          intro m nm
          have h3m : p3 ≠ m := ne_of_none g3' nm
          refine ⟨_, rfl, _, rfl, _, rfl, _, rfl, _, _, rfl, rfl, (Or.inl ⟨by decide, by decide⟩), _, _, rfl, rfl, (by show 1 ≤ sizeLine; decide), fun l nl => ?_⟩
          have nml : m ≠ l := ne_of_none upd_same nl
          have nl0 : H5 l = none := Same.free (Same.new nm) nl
          refine ⟨p3, l, cs.map V.int, [V.int (47 * k + 19)], rfl, rfl, ?_, upd_same, ?_, fun u nu => ?_⟩
          · rw [upd_ne (ne_of_none g3' nl0), upd_ne h3m]
            exact g3'
          · rw [List.length_map]
            exact small (by show cs.length + 1 ≤ 1000; omega)
          have nmu : m ≠ u := ne_of_none (by rw [upd_ne nml]; exact upd_same) nu
          have nu0 : H5 u = none := Same.free (Same.put (Same.new nm) nl0) nu
          refine ⟨?_, mk4 _ y u 0, rfl, (by show 4 ≤ 15; decide), ?_⟩
          · rw [upd_ne nmu, upd_ne nml]
            exact upd_same
          rw [m4_merge]
          have hm0 : H m = none := Same.free sB nm
          have hl0 : H l = none := Same.free sB nl0
          have hu0 : H u = none := Same.free sB nu0
          refine q _ m u (Same.put (Same.put (Same.put (Same.put sB hm0) hl0) hu0) hm0) hm0 hu0 ⟨_, y, cs ++ [47 * k + 19], 0, upd_same, Nat.le_refl _, ?_, ?_⟩
          · rw [upd_ne (fun z => nmu z.symm), upd_same, List.map_append]
            rfl
          · rw [List.length_append]
            exact Nat.lt_of_lt_of_le (by decide : 0 < 1) (Nat.le_add_left _ _)
end
end K07
set_option Elab.async false
set_option linter.all false
set_option maxRecDepth 100000
set_option maxHeartbeats 4000000
namespace K07
open PySem PySem.Spec PyProof.Rows L2 Gd QM
local macro_rules | `(tactic| walk_at "bd") => `(tactic| (repeat (first | assumption | apply B.add | apply B.sub | apply B.mul | apply B.neg | exact B.lit (n := 8) (by decide))))
local macro_rules | `(tactic| walk_at "bu") => `(tactic| (apply B.up; walk_at "bd"; decide))
local macro_rules | `(tactic| walk_at "bnd") => `(tactic| (apply B.mulW; walk_at "bd"; decide))
local macro_rules | `(tactic| walk_at "pw") => `(tactic| exact B.up (n := 64) (by assumption) (by decide))
/-! ### which curves are let -/
def Let (c : Cv) : Prop := c.a1.natAbs ≤ 1000 ∧ c.a2.natAbs ≤ 1000 ∧ c.a3.natAbs ≤ 1000 ∧ c.a4.natAbs ≤ 1000000000 ∧ c.a6.natAbs ≤ 1000000000
instance (c : Cv) : Decidable (Let c) := inferInstanceAs (Decidable (_ ∧ _ ∧ _ ∧ _ ∧ _))
theorem Let.sm {c : Cv} (h : Let c) : c.Sm := by
  obtain ⟨h1, h2, h3, h4, h6⟩ := h
  refine ⟨?_, ?_, ?_, ?_, ?_⟩ <;> (unfold B; omega)
section
variable {P : Program} {w : World} {K : PySem.W.Frag} {mg : Str → Option Value} {base : Heap}
def sp_law_is_let (K : PySem.W.Frag) : Sp := fun vs H Q _ => ∃ (p : Addr) (c : Cv), vs = [.ref p] ∧ SqT K H p c.tup ∧ ∀ H', Same H H' → Q (.bl (decide (Let c))) H'
abbrev s__law_is_let : Stmt := topS 43
theorem sc__law_is_let : FnScope ["five_v", "part"] ["five_v"] (defScope s__law_is_let) := ⟨rfl, rfl, rfl, by decide +kernel, rfl, by decide +kernel, by decide +kernel⟩
theorem k_law_is_let (T : Tx K mg) (D : Df K mg "_law_is_let" s__law_is_let ["five_v"])  : Kl P w K mg base 1 "_law_is_let" (sp_law_is_let K) := by
  have nd := sc__law_is_let.nd
  refine Kl.by_body D sc__law_is_let (fun vs H Q E h => ?_) (fun f cdv A outer s H vs Q E hr h => ?_)
  · obtain ⟨_, _, rfl, _⟩ := h
    rfl
  · obtain ⟨p, c, rfl, hp, q⟩ := h
    have hu1 := hu_of hr
    refine ⟨_, (pss_one (ps_ret (pe_and (pe_cmpR op_le (pe_callB (cr_max rfl) (by rfl) T.max (by decide +kernel) (pa_cons (pe_lc (own := [("part", 1)]) (g := gName 1) rfl nd (pi_tup (pe_slice sl_tupA (pv 0) po_none (po_some pe_int))) (blkOk_by (N := ["five_v", "part"]) (sc := defScope s__law_is_let) (by decide +kernel)) (fun _ _ _ _ _ => (pg_name (i := 1) nd rfl (by first | exact Or.inl rfl | exact Or.inr rfl))) (fun _ _ _ _ _ => pts_nil) (fun _ _ _ _ _ => (pe_callB call_abs (by rfl) T.abs (by decide +kernel) (pa_cons (pv 1) pa_nil)))) pa_nil)) pe_int (nomark _)) (pe_one (pe_cmpR op_le (pe_callB (call_max2 rfl) (by rfl) T.max (by decide +kernel) (pa_cons (pe_callB call_abs (by rfl) T.abs (by decide +kernel) (pa_cons (pe_ix ix_tup (pv 0) pe_int (fun _ _ => rfl)) pa_nil)) (pa_cons (pe_callB call_abs (by rfl) T.abs (by decide +kernel) (pa_cons (pe_ix ix_tup (pv 0) pe_int (fun _ _ => rfl)) pa_nil)) pa_nil))) (pe_op op_pow pe_int pe_int) (nomark _)))))), ?_⟩
    refine ⟨.ref p, rfl, 3, rfl, slA_any hp fun p1 H1 s1 e1 => ⟨p1, rfl, ⟨_, e1⟩, fun D hD => ?_⟩⟩
    refine lc_tup (K := K) (a := p1) (xs := [V.int c.a1, V.int c.a2, V.int c.a3]) (fun i H2 => Same H1 H2 ∧ H2 D = some (.lst (([(c.a1.natAbs : Int), (c.a2.natAbs : Int), (c.a3.natAbs : Int)].take i).map V.int))) ⟨Same.new hD, upd_same⟩ (fun i H2 _ z => Same.tup z.1 e1) (fun i x H2 hi z => ?_) (fun H2 z => ?_)
    · match i, hi with
      | 0, hi =>
        obtain rfl := Option.some.inj hi
        refine ⟨rfl, _, rfl, c.a1, rfl, _, z.2, (by show 0 < sizeLine; decide), Same.put z.1 hD, ?_⟩
        rw [abs_eq, upd_same]
        rfl
      | 1, hi =>
        obtain rfl := Option.some.inj hi
        refine ⟨rfl, _, rfl, c.a2, rfl, _, z.2, (by show 1 < sizeLine; decide), Same.put z.1 hD, ?_⟩
        rw [abs_eq, upd_same]
        rfl
      | 2, hi =>
        obtain rfl := Option.some.inj hi
        refine ⟨rfl, _, rfl, c.a3, rfl, _, z.2, (by show 2 < sizeLine; decide), Same.put z.1 hD, ?_⟩
        rw [abs_eq, upd_same]
        rfl
    · refine ⟨D, [(c.a1.natAbs : Int), (c.a2.natAbs : Int), (c.a3.natAbs : Int)], rfl, .inl (.inl z.2), (by show 0 < 3; decide), fun mx hm1 hm2 => ?_⟩
      have g : ∀ y ∈ [(c.a1.natAbs : Int), (c.a2.natAbs : Int), (c.a3.natAbs : Int)], y ≤ mx := hm2
      have ga := g c.a1.natAbs (by simp)
      have gb := g c.a2.natAbs (by simp)
      have gd := g c.a3.natAbs (by simp)
      simp only [List.mem_cons, List.not_mem_nil, or_false] at hm1
      have sA := s1.trans z.1
      refine ⟨mx, 1000, rfl, rfl, _, rfl, ite2 (fun e => ?_) (fun e => ?_)⟩
      · have e' : mx ≤ 1000 := of_decide_eq_true e
        have hp2 := Same.tup sA hp
        refine ⟨.ref p, rfl, p, _, 3, .int c.a4, rfl, rfl, hp2, rfl, c.a4, rfl, .ref p, rfl, p, _, 4, .int c.a6, rfl, rfl, hp2, rfl, c.a6, rfl, _, _, rfl, _, _, rfl, rfl, ⟨by decide, by decide, by decide⟩, _, _, rfl, rfl, ?_⟩
        have er : decide ((if (if c.a6 < 0 then -c.a6 else c.a6) > (if c.a4 < 0 then -c.a4 else c.a4) then (if c.a6 < 0 then -c.a6 else c.a6) else (if c.a4 < 0 then -c.a4 else c.a4)) ≤ (10 : Int) ^ (9 : Int).toNat) = decide (Let c) := by
          rw [abs_eq, abs_eq]
          have e9 : (10 : Int) ^ (9 : Int).toNat = 1000000000 := by decide
          rw [e9]
          by_cases hh : Let c
          · rw [decide_eq_true hh]
            obtain ⟨h1, h2, h3, h4, h6⟩ := hh
            refine decide_eq_true ?_
            split <;> omega
          · rw [decide_eq_false hh]
            refine decide_eq_false (fun z => hh ?_)
            split at z <;> exact ⟨by omega, by omega, by omega, by omega, by omega⟩
        have := q H2 sA
        rw [← er] at this
        exact this
      · have e' : ¬ mx ≤ 1000 := fun z => e (decide_eq_true z)
        have hn : ¬ Let c := fun hh => e' (by
          obtain ⟨h1, h2, h3, h4, h6⟩ := hh
          omega)
        have := q H2 sA
        rw [decide_eq_false hn] at this
        exact this
/-! ### curves that are alike to it -/
def Cv.mv (c : Cv) (r s t : Int) : Cv := ⟨c.a1 + 2 * s, c.a2 + 3 * r - s * c.a1 - s * s, c.a3 + 2 * t + r * c.a1, c.a4 + 2 * c.a2 * r + 3 * r * r - s * c.a3 - c.a1 * (t + r * s) - 2 * s * t, c.a6 + c.a4 * r + c.a2 * r * r + r ^ 3 - t * (c.a3 + t + c.a1 * r)⟩
def Cv.up (c : Cv) (k : Int) : Cv := ⟨k * c.a1, k ^ 2 * c.a2, k ^ 3 * c.a3, k ^ 4 * c.a4, k ^ 6 * c.a6⟩
theorem mv_b2 (c : Cv) (r s t : Int) : (c.mv r s t).b2 = c.b2 + 12 * r := by
  unfold Cv.b2 Cv.mv
  grind
theorem mv_b4 (c : Cv) (r s t : Int) : (c.mv r s t).b4 = c.b4 + r * c.b2 + 6 * r * r := by
  unfold Cv.b4 Cv.b2 Cv.mv
  grind
theorem mv_b6 (c : Cv) (r s t : Int) : (c.mv r s t).b6 = c.b6 + 2 * r * c.b4 + r * r * c.b2 + 4 * r * r * r := by
  unfold Cv.b6 Cv.b4 Cv.b2 Cv.mv
  grind
theorem mv_c4 (c : Cv) (r s t : Int) : (c.mv r s t).c4 = c.c4 := by
  unfold Cv.c4
  rw [mv_b2, mv_b4]
  grind
theorem mv_c6 (c : Cv) (r s t : Int) : (c.mv r s t).c6 = c.c6 := by
  unfold Cv.c6
  rw [mv_b2, mv_b4, mv_b6]
  grind
theorem up_c4 (c : Cv) (k : Int) : (c.up k).c4 = k ^ 4 * c.c4 := by
  have e2 : (c.up k).b2 = k ^ 2 * c.b2 := by
    unfold Cv.b2 Cv.up
    grind
  have e4 : (c.up k).b4 = k ^ 4 * c.b4 := by
    unfold Cv.b4 Cv.up
    grind
  unfold Cv.c4
  rw [e2, e4]
  grind
theorem up_c6 (c : Cv) (k : Int) : (c.up k).c6 = k ^ 6 * c.c6 := by
  have e2 : (c.up k).b2 = k ^ 2 * c.b2 := by
    unfold Cv.b2 Cv.up
    grind
  have e4 : (c.up k).b4 = k ^ 4 * c.b4 := by
    unfold Cv.b4 Cv.up
    grind
  have e6 : (c.up k).b6 = k ^ 6 * c.b6 := by
    unfold Cv.b6 Cv.up
    grind
  unfold Cv.c6
  rw [e2, e4, e6]
  grind
/-- alike to c by some whole scale -/
def Far (c d : Cv) : Prop := ∃ k : Int, 1 ≤ k ∧ d.c4 = k ^ 4 * c.c4 ∧ d.c6 = k ^ 6 * c.c6
theorem Far.nz {c d : Cv} (h : Far c d) (n : NZ c) : NZ d := by
  obtain ⟨k, k1, h4, h6⟩ := h
  have p4 : k ^ 4 ≠ 0 := Int.ne_of_gt (Int.pow_pos (by omega))
  have p6 : k ^ 6 ≠ 0 := Int.ne_of_gt (Int.pow_pos (by omega))
  rcases n with n | n
  · exact Or.inl (by rw [h4]; exact mul_ne p4 n)
  · exact Or.inr (by rw [h6]; exact mul_ne p6 n)
theorem Far.u {c d : Cv} (h : Far c d) : ∃ u, UU c d u := by
  obtain ⟨k, k1, h4, h6⟩ := h
  have hk : (k : Rat) ≠ 0 := fun e => by
    have := cz.mp e
    omega
  refine ⟨1 / (k : Rat), ?_, ?_, ?_⟩
  · rw [Rat.div_def, Rat.one_mul]
    exact Rat.inv_pos.mpr (by exact_mod_cast (show (0 : Int) < k by omega))
  · rw [h4, Rat.intCast_mul, Rat.intCast_pow]
    grind
  · rw [h6, Rat.intCast_mul, Rat.intCast_pow]
    grind
def sp_law_far (K : PySem.W.Frag) : Sp := fun vs H Q _ => ∃ (m cl p : Addr) (c : Cv) (n : Nat), vs = [.ref m, .ref p] ∧ SqT K H p c.tup ∧ Let c ∧ n ≤ 1000 ∧ MAt H m cl n ∧ ∀ H' a d, But m H H' → MAt H' m cl (n + 4) → SqT K H' a (Cv.tup d) → Let d → Far c d → Q (.ref a) H'
structure MvB (c : Cv) (r s t : Int) : Prop where
  h1 : B 40 (c.mv r s t).a1
  h2 : B 40 (c.mv r s t).a2
  h3 : B 40 (c.mv r s t).a3
  h4 : B 45 (c.mv r s t).a4
  h6 : B 60 (c.mv r s t).a6
theorem mv_B {c : Cv} {r s t : Int} (h : c.Sm) (hr : B 3 r) (hs : B 3 s) (ht : B 3 t) : MvB c r s t := by
  obtain ⟨h1, h2, h3, h4, h6⟩ := h
  have r3 : B 10 (r ^ 3) := (hr.pow 3).up (by decide)
  refine ⟨?_, ?_, ?_, ?_, ?_⟩ <;> (unfold Cv.mv; walk_at "bu")
abbrev s__law_far : Stmt := topS 42
theorem sc__law_far : FnScope ["m", "five_v", "k", "r", "s", "t", "a", "b", "c", "d", "e", "flat", "low", "last", "far"] ["m", "five_v"] (defScope s__law_far) := ⟨rfl, rfl, rfl, by decide +kernel, rfl, by decide +kernel, by decide +kernel⟩
theorem k_law_far (T : Tx K mg) (D : Df K mg "_law_far" s__law_far ["m", "five_v"]) (c_law_of : Kl P w K mg base 2 "_law_of" (sp_law_of K)) (c_law_between : Kl P w K mg base 2 "_law_between" (sp_law_between K)) (c_law_is_let : Kl P w K mg base 1 "_law_is_let" (sp_law_is_let K)) : Kl P w K mg base 3 "_law_far" (sp_law_far K) := by
  have nd := sc__law_far.nd
  refine Kl.by_body D sc__law_far (fun vs H Q E h => ?_) (fun f cdv A outer s H vs Q E hr h => ?_)
  · obtain ⟨_, _, _, _, _, rfl, _⟩ := h
    rfl
  · obtain ⟨m, cl, p, c, n, rfl, hp, hc, hn, hM, q⟩ := h
    have hu1 := hu_of hr
    refine ⟨_, (pss_cons (ps_asg (pe_tup (pa_cons (pe_k c_law_of  hr (by decide) (by rfl) (pa_cons (pv 0) (pa_cons (pe_lst (pa_cons pe_int (pa_cons pe_int (pa_cons pe_int (pa_cons pe_int (pa_cons pe_int pa_nil)))))) pa_nil))) (pa_cons (pe_k c_law_between  hr (by decide) (by rfl) (pa_cons (pv 0) (pa_cons pe_int pa_nil))) (pa_cons (pe_k c_law_between  hr (by decide) (by rfl) (pa_cons (pv 0) (pa_cons pe_int pa_nil))) (pa_cons (pe_k c_law_between  hr (by decide) (by rfl) (pa_cons (pv 0) (pa_cons pe_int pa_nil))) pa_nil))))) (pg_tup rfl (pgs_cons (pg_name (i := 2) nd rfl (by first | exact Or.inl rfl | exact Or.inr rfl)) (pgs_cons (pg_name (i := 3) nd rfl (by first | exact Or.inl rfl | exact Or.inr rfl)) (pgs_cons (pg_name (i := 4) nd rfl (by first | exact Or.inl rfl | exact Or.inr rfl)) (pgs_cons (pg_name (i := 5) nd rfl (by first | exact Or.inl rfl | exact Or.inr rfl)) pgs_nil))))))
      (pss_cons (ps_asg (pv 1) (pg_tup rfl (pgs_cons (pg_name (i := 6) nd rfl (by first | exact Or.inl rfl | exact Or.inr rfl)) (pgs_cons (pg_name (i := 7) nd rfl (by first | exact Or.inl rfl | exact Or.inr rfl)) (pgs_cons (pg_name (i := 8) nd rfl (by first | exact Or.inl rfl | exact Or.inr rfl)) (pgs_cons (pg_name (i := 9) nd rfl (by first | exact Or.inl rfl | exact Or.inr rfl)) (pgs_cons (pg_name (i := 10) nd rfl (by first | exact Or.inl rfl | exact Or.inr rfl)) pgs_nil)))))))
      (pss_cons (ps_set (i := 11) nd rfl (by first | exact Or.inl rfl | exact Or.inr rfl) (pe_lst (pa_cons (pe_op op_add (pv 6) (pe_op op_mul pe_int (pv 4))) (pa_cons (pe_op op_sub (pe_op op_sub (pe_op op_add (pv 7) (pe_op op_mul pe_int (pv 3))) (pe_op op_mulW (pv 4) (pv 6))) (pe_op op_mulW (pv 4) (pv 4))) (pa_cons (pe_op op_add (pe_op op_add (pv 8) (pe_op op_mul pe_int (pv 5))) (pe_op op_mulW (pv 3) (pv 6))) pa_nil)))))
      (pss_cons (ps_set (i := 12) nd rfl (by first | exact Or.inl rfl | exact Or.inr rfl) (pe_op op_sub (pe_op op_add (pe_op op_add (pv 9) (pe_op op_mulW (pe_op op_mul pe_int (pv 7)) (pv 3))) (pe_op op_mulW (pe_op op_mul pe_int (pv 3)) (pv 3))) (pe_op op_mulW (pv 4) (pv 8))))
      (pss_cons (ps_set (i := 12) nd rfl (by first | exact Or.inl rfl | exact Or.inr rfl) (pe_op op_sub (pe_op op_sub (pv 12) (pe_op op_mulW (pv 6) (pe_op op_add (pv 5) (pe_op op_mulW (pv 3) (pv 4))))) (pe_op op_mulW (pe_op op_mul pe_int (pv 4)) (pv 5))))
      (pss_cons (ps_set (i := 13) nd rfl (by first | exact Or.inl rfl | exact Or.inr rfl) (pe_op op_add (pe_op op_add (pe_op op_add (pv 10) (pe_op op_mulW (pv 9) (pv 3))) (pe_op op_mulW (pe_op op_mulW (pv 7) (pv 3)) (pv 3))) (pe_op op_pow (pv 3) pe_int)))
      (pss_cons (ps_set (i := 11) nd rfl (by first | exact Or.inl rfl | exact Or.inr rfl) (pe_op op_cat (pv 11) (pe_lst (pa_cons (pv 12) (pa_cons (pe_op op_sub (pv 13) (pe_op op_mulW (pv 5) (pe_op op_add (pe_op op_add (pv 8) (pv 5)) (pe_op op_mulW (pv 6) (pv 3))))) pa_nil)))))
      (pss_cons (ps_set (i := 14) nd rfl (by first | exact Or.inl rfl | exact Or.inr rfl) (pe_tup (pa_cons (pe_op op_mulW (pv 2) (pe_ix ix_list (pv 11) pe_int (fun _ _ => rfl))) (pa_cons (pe_op op_mulW (pe_op op_pow (pv 2) pe_int) (pe_ix ix_list (pv 11) pe_int (fun _ _ => rfl))) (pa_cons (pe_op op_mulW (pe_op op_pow (pv 2) pe_int) (pe_ix ix_list (pv 11) pe_int (fun _ _ => rfl))) (pa_cons (pe_op op_mulW (pe_op op_pow (pv 2) pe_int) (pe_ix ix_list (pv 11) pe_int (fun _ _ => rfl))) (pa_cons (pe_op op_mulW (pe_op op_pow (pv 2) pe_int) (pe_ix ix_list (pv 11) pe_int (fun _ _ => rfl))) pa_nil)))))))
      (pss_one (ps_ret (pe_ifExp (pt_val (pe_k c_law_is_let  hr (by decide) (by rfl) (pa_cons (pv 14) pa_nil))) (pv 14) (pe_ifExp (pt_val (pe_k c_law_is_let  hr (by decide) (by rfl) (pa_cons (pe_callTy call_tuple_of (by rfl) T.tuple (by decide +kernel) (pa_cons (pv 11) pa_nil)) pa_nil))) (pe_callTy call_tuple_of (by rfl) T.tuple (by decide +kernel) (pa_cons (pv 11) pa_nil)) (pv 1))))))))))))), ?_⟩
    refine ⟨_, rfl, (by show 5 ≤ sizeLine; decide), fun l nl => ?_⟩
    have s1 := Same.new (H := H) (p := l) (o := .lst [.int 1, .int 1, .int 2, .int 3, .int 6]) nl
    have g1 : upd H l (.lst [.int 1, .int 1, .int 2, .int 3, .int 6]) l = some (.lst [.int 1, .int 1, .int 2, .int 3, .int 6]) := upd_same
    generalize upd H l (.lst [.int 1, .int 1, .int 2, .int 3, .int 6]) = H1 at s1 g1 ⊢
    have m1 := hM.same s1
    refine ⟨m, cl, l, _, n, rfl, lst_of g1, (by show 0 < 5; decide), (by show 5 ≤ 1000; decide), by omega, m1, fun H2 z b2 m2 hz => ?_⟩
    have hz2 : ∃ k : Int, z = .int k ∧ 1 ≤ k ∧ k ≤ 6 := by
      simp only [List.mem_cons, List.not_mem_nil, or_false] at hz
      rcases hz with rfl | rfl | rfl | rfl | rfl <;> exact ⟨_, rfl, by decide, by decide⟩
    obtain ⟨k, rfl, k0, k1⟩ := hz2
    refine ⟨_, rfl, m, cl, 4, n + 1, rfl, by decide, by decide, by omega, m2, fun H3 r b3 m3 r0 r1 => ?_⟩
    refine ⟨_, rfl, m, cl, 3, n + 1 + 1, rfl, by decide, by decide, by omega, m3, fun H4 s b4 m4 w0 w1 => ?_⟩
    refine ⟨_, rfl, m, cl, 4, n + 1 + 1 + 1, rfl, by decide, by decide, by omega, m4, fun H5 t b5 m5 t0 t1 => ?_⟩
    refine ⟨(by show 4 ≤ sizeLine; decide), fun tq ntq => ?_⟩
    have s6 := Same.new (H := H5) (p := tq) (o := .tup [.int k, .int r, .int s, .int t]) ntq
    have g6 : upd H5 tq (.tup [.int k, .int r, .int s, .int t]) tq = some (.tup [.int k, .int r, .int s, .int t]) := upd_same
    generalize upd H5 tq (.tup [.int k, .int r, .int s, .int t]) = H6 at s6 g6 ⊢
    refine ⟨tq, _, rfl, tup_of g6, rfl, _, _, rfl, _, _, rfl, _, _, rfl, _, _, rfl, rfl, ?_⟩
    have bA : But m H H6 := (But.of s1).trans (b2.trans (b3.trans (b4.trans (b5.trans (But.of s6)))))
    have m6 := m5.same s6
    have hp6 := bA.seqT hM hp
    have kB : B 3 k := B.between 6 (by omega) (by omega) (by decide)
    have rB : B 3 r := B.between 4 (by omega) (by omega) (by decide)
    have sB : B 3 s := B.between 3 (by omega) (by omega) (by decide)
    have tB : B 3 t := B.between 4 (by omega) (by omega) (by decide)
    clear s1 g1 m1 b2 m2 hz b3 m3 b4 m4 b5 m5 s6 g6 nl ntq
    first | refine sigN [some (.ref m), some (.ref p), some (.int k), some (.int r), some (.int s), some (.int t), none, none, none, none, none, none, none, none, none] (by rfl) ?_ | refine sig [some (.ref m), some (.ref p), some (.int k), some (.int r), some (.int s), some (.int t), none, none, none, none, none, none, none, none, none] (by rfl) ?_
    refine ⟨.ref p, rfl, p, _, rfl, hp6, rfl, _, _, rfl, _, _, rfl, _, _, rfl, _, _, rfl, _, _, rfl, rfl, ?_⟩
    first | refine sigN [some (.ref m), some (.ref p), some (.int (k)), some (.int (r)), some (.int (s)), some (.int (t)), some (.int (c.a1)), some (.int (c.a2)), some (.int (c.a3)), some (.int (c.a4)), some (.int (c.a6)), none, none, none, none] (by rfl) ?_ | refine sig [some (.ref m), some (.ref p), some (.int (k)), some (.int (r)), some (.int (s)), some (.int (t)), some (.int (c.a1)), some (.int (c.a2)), some (.int (c.a3)), some (.int (c.a4)), some (.int (c.a6)), none, none, none, none] (by rfl) ?_
    have hmB := mv_B hc.sm rB sB tB
    have hcs := hc.sm
    obtain ⟨h1, h2, h3, h4, h6⟩ := hcs
    have r3 : B 64 (r ^ (3 : Int).toNat) := (rB.pow 3).up (by decide)
    refine ⟨_, rfl, _, rfl, _, _, rfl, rfl, (Or.inl ⟨by decide, by decide⟩), _, _, rfl, rfl, _, rfl, _, rfl, _, _, rfl, rfl, (Or.inl ⟨by decide, by decide⟩), _, _, rfl, rfl, _, rfl, _, rfl, _, _, rfl, rfl, (by walk_at "bnd"), _, _, rfl, rfl, _, rfl, _, rfl, _, _, rfl, rfl, (by walk_at "bnd"), _, _, rfl, rfl, _, rfl, _, rfl, _, _, rfl, rfl, (Or.inl ⟨by decide, by decide⟩), _, _, rfl, rfl, _, rfl, _, rfl, _, _, rfl, rfl, (by walk_at "bnd"), _, _, rfl, rfl, (by show 3 ≤ sizeLine; decide), fun f1 nf1 => ?_⟩
    have s7 := Same.new (H := H6) (p := f1) (o := .lst [.int (c.a1 + 2 * s), .int (c.a2 + 3 * r - s * c.a1 - s * s), .int (c.a3 + 2 * t + r * c.a1)]) nf1
    have g7 : upd H6 f1 (.lst [.int (c.a1 + 2 * s), .int (c.a2 + 3 * r - s * c.a1 - s * s), .int (c.a3 + 2 * t + r * c.a1)]) f1 = some (.lst [.int (c.a1 + 2 * s), .int (c.a2 + 3 * r - s * c.a1 - s * s), .int (c.a3 + 2 * t + r * c.a1)]) := upd_same
    generalize upd H6 f1 (.lst [.int (c.a1 + 2 * s), .int (c.a2 + 3 * r - s * c.a1 - s * s), .int (c.a3 + 2 * t + r * c.a1)]) = H7 at s7 g7 ⊢
    first | refine sigN [some (.ref m), some (.ref p), some (.int (k)), some (.int (r)), some (.int (s)), some (.int (t)), some (.int (c.a1)), some (.int (c.a2)), some (.int (c.a3)), some (.int (c.a4)), some (.int (c.a6)), some (.ref f1), none, none, none] (by rfl) ?_ | refine sig [some (.ref m), some (.ref p), some (.int (k)), some (.int (r)), some (.int (s)), some (.int (t)), some (.int (c.a1)), some (.int (c.a2)), some (.int (c.a3)), some (.int (c.a4)), some (.int (c.a6)), some (.ref f1), none, none, none] (by rfl) ?_
    refine ⟨_, rfl, _, rfl, _, _, rfl, rfl, (Or.inl ⟨by decide, by decide⟩), _, rfl, _, _, rfl, rfl, (by walk_at "bnd"), _, _, rfl, rfl, _, rfl, _, _, rfl, rfl, (Or.inl ⟨by decide, by decide⟩), _, rfl, _, _, rfl, rfl, (by walk_at "bnd"), _, _, rfl, rfl, _, rfl, _, rfl, _, _, rfl, rfl, (by walk_at "bnd"), _, _, rfl, rfl, ?_⟩
    first | refine sigN [some (.ref m), some (.ref p), some (.int (k)), some (.int (r)), some (.int (s)), some (.int (t)), some (.int (c.a1)), some (.int (c.a2)), some (.int (c.a3)), some (.int (c.a4)), some (.int (c.a6)), some (.ref f1), some (.int (c.a4 + 2 * c.a2 * r + 3 * r * r - s * c.a3)), none, none] (by rfl) ?_ | refine sig [some (.ref m), some (.ref p), some (.int (k)), some (.int (r)), some (.int (s)), some (.int (t)), some (.int (c.a1)), some (.int (c.a2)), some (.int (c.a3)), some (.int (c.a4)), some (.int (c.a6)), some (.ref f1), some (.int (c.a4 + 2 * c.a2 * r + 3 * r * r - s * c.a3)), none, none] (by rfl) ?_
    refine ⟨_, rfl, _, rfl, _, rfl, _, rfl, _, rfl, _, _, rfl, rfl, (by walk_at "bnd"), _, _, rfl, rfl, _, _, rfl, rfl, (by walk_at "bnd"), _, _, rfl, rfl, _, rfl, _, _, rfl, rfl, (Or.inl ⟨by decide, by decide⟩), _, rfl, _, _, rfl, rfl, (by walk_at "bnd"), _, _, rfl, rfl, ?_⟩
    first | refine sigN [some (.ref m), some (.ref p), some (.int (k)), some (.int (r)), some (.int (s)), some (.int (t)), some (.int (c.a1)), some (.int (c.a2)), some (.int (c.a3)), some (.int (c.a4)), some (.int (c.a6)), some (.ref f1), some (.int ((c.mv r s t).a4)), none, none] (by rfl) ?_ | refine sig [some (.ref m), some (.ref p), some (.int (k)), some (.int (r)), some (.int (s)), some (.int (t)), some (.int (c.a1)), some (.int (c.a2)), some (.int (c.a3)), some (.int (c.a4)), some (.int (c.a6)), some (.ref f1), some (.int ((c.mv r s t).a4)), none, none] (by rfl) ?_
    refine ⟨_, rfl, _, rfl, _, rfl, _, _, rfl, rfl, (by walk_at "bnd"), _, _, rfl, rfl, _, rfl, _, rfl, _, _, rfl, rfl, (by walk_at "bnd"), _, rfl, _, _, rfl, rfl, (by walk_at "bnd"), _, _, rfl, rfl, _, rfl, _, _, rfl, rfl, ⟨by decide, by decide, by walk_at "pw"⟩, _, _, rfl, rfl, ?_⟩
    first | refine sigN [some (.ref m), some (.ref p), some (.int (k)), some (.int (r)), some (.int (s)), some (.int (t)), some (.int (c.a1)), some (.int (c.a2)), some (.int (c.a3)), some (.int (c.a4)), some (.int (c.a6)), some (.ref f1), some (.int ((c.mv r s t).a4)), some (.int (c.a6 + c.a4 * r + c.a2 * r * r + r ^ 3)), none] (by rfl) ?_ | refine sig [some (.ref m), some (.ref p), some (.int (k)), some (.int (r)), some (.int (s)), some (.int (t)), some (.int (c.a1)), some (.int (c.a2)), some (.int (c.a3)), some (.int (c.a4)), some (.int (c.a6)), some (.ref f1), some (.int ((c.mv r s t).a4)), some (.int (c.a6 + c.a4 * r + c.a2 * r * r + r ^ 3)), none] (by rfl) ?_
    refine ⟨.ref f1, rfl, ?_⟩
    refine ⟨_, rfl, _, rfl, _, rfl, _, rfl, _, rfl, _, _, rfl, rfl, _, rfl, _, rfl, _, _, rfl, rfl, (by walk_at "bnd"), _, _, rfl, rfl, _, _, rfl, rfl, (by walk_at "bnd"), _, _, rfl, rfl, (by show 2 ≤ sizeLine; decide), fun f2 nf2 => ?_⟩
    have s8 := Same.new (H := H7) (p := f2) (o := .lst [.int (c.mv r s t).a4, .int (c.a6 + c.a4 * r + c.a2 * r * r + r ^ 3 - t * (c.a3 + t + c.a1 * r))]) nf2
    have g8 : upd H7 f2 (.lst [.int (c.mv r s t).a4, .int (c.a6 + c.a4 * r + c.a2 * r * r + r ^ 3 - t * (c.a3 + t + c.a1 * r))]) f2 = some (.lst [.int (c.mv r s t).a4, .int (c.a6 + c.a4 * r + c.a2 * r * r + r ^ 3 - t * (c.a3 + t + c.a1 * r))]) := upd_same
    generalize upd H7 f2 (.lst [.int (c.mv r s t).a4, .int (c.a6 + c.a4 * r + c.a2 * r * r + r ^ 3 - t * (c.a3 + t + c.a1 * r))]) = H8 at s8 g8 ⊢
    refine ⟨f1, f2, _, _, rfl, rfl, s8 _ _ g7, g8, (by show 3 + 2 ≤ sizeLine; decide), fun F nF => ?_⟩
    have s9 := Same.new (H := H8) (p := F) (o := .lst ([.int (c.a1 + 2 * s), .int (c.a2 + 3 * r - s * c.a1 - s * s), .int (c.a3 + 2 * t + r * c.a1)] ++ [.int (c.mv r s t).a4, .int (c.a6 + c.a4 * r + c.a2 * r * r + r ^ 3 - t * (c.a3 + t + c.a1 * r))])) nF
    have gF0 : upd H8 F (.lst ([.int (c.a1 + 2 * s), .int (c.a2 + 3 * r - s * c.a1 - s * s), .int (c.a3 + 2 * t + r * c.a1)] ++ [.int (c.mv r s t).a4, .int (c.a6 + c.a4 * r + c.a2 * r * r + r ^ 3 - t * (c.a3 + t + c.a1 * r))])) F = some (.lst ([.int (c.a1 + 2 * s), .int (c.a2 + 3 * r - s * c.a1 - s * s), .int (c.a3 + 2 * t + r * c.a1)] ++ [.int (c.mv r s t).a4, .int (c.a6 + c.a4 * r + c.a2 * r * r + r ^ 3 - t * (c.a3 + t + c.a1 * r))])) := upd_same
    generalize upd H8 F (.lst ([.int (c.a1 + 2 * s), .int (c.a2 + 3 * r - s * c.a1 - s * s), .int (c.a3 + 2 * t + r * c.a1)] ++ [.int (c.mv r s t).a4, .int (c.a6 + c.a4 * r + c.a2 * r * r + r ^ 3 - t * (c.a3 + t + c.a1 * r))])) = H9 at s9 gF0 ⊢
    have gF : H9 F = some (.lst (c.mv r s t).tup) := gF0
    first | refine sigN [some (.ref m), some (.ref p), some (.int k), some (.int r), some (.int s), some (.int t), some (.int c.a1), some (.int c.a2), some (.int c.a3), some (.int c.a4), some (.int c.a6), some (.ref F), none, none, none] (by rfl) ?_ | skip
    have sC := s7.trans (s8.trans s9)
    have m9 := m6.same sC
    have bC : But m H H9 := bA.trans (But.of sC)
    have hp9 := Same.tup sC hp6
    clear s7 s8 s9 g7 g8 nf1 nf2 nF
    have k2 : B 7 (k ^ (2 : Int).toNat) := kB.pow 2
    have k3 : B 10 (k ^ (3 : Int).toNat) := kB.pow 3
    have k4 : B 13 (k ^ (4 : Int).toNat) := kB.pow 4
    have k6 : B 19 (k ^ (6 : Int).toNat) := kB.pow 6
    refine ⟨_, rfl, .ref F, rfl, F, _, 0, .int (c.mv r s t).a1, rfl, rfl, lst_of gF, rfl, _, _, rfl, rfl, B.mulW kB hmB.h1 (by decide), _, rfl, _, _, rfl, rfl, ⟨by decide, by decide, kB.up (n := 64) (by decide)⟩, .ref F, rfl, F, _, 1, .int (c.mv r s t).a2, rfl, rfl, lst_of gF, rfl, _, _, rfl, rfl, B.mulW k2 hmB.h2 (by decide), _, rfl, _, _, rfl, rfl, ⟨by decide, by decide, kB.up (n := 64) (by decide)⟩, .ref F, rfl, F, _, 2, .int (c.mv r s t).a3, rfl, rfl, lst_of gF, rfl, _, _, rfl, rfl, B.mulW k3 hmB.h3 (by decide), _, rfl, _, _, rfl, rfl, ⟨by decide, by decide, kB.up (n := 64) (by decide)⟩, .ref F, rfl, F, _, 3, .int (c.mv r s t).a4, rfl, rfl, lst_of gF, rfl, _, _, rfl, rfl, B.mulW k4 hmB.h4 (by decide), _, rfl, _, _, rfl, rfl, ⟨by decide, by decide, kB.up (n := 64) (by decide)⟩, .ref F, rfl, F, _, 4, .int (c.mv r s t).a6, rfl, rfl, lst_of gF, rfl, _, _, rfl, rfl, B.mulW k6 hmB.h6 (by decide), (by show 5 ≤ sizeLine; decide), fun G nG => ?_⟩
    have sa := Same.new (H := H9) (p := G) (o := .tup [.int (k * (c.mv r s t).a1), .int (k ^ (2 : Int).toNat * (c.mv r s t).a2), .int (k ^ (3 : Int).toNat * (c.mv r s t).a3), .int (k ^ (4 : Int).toNat * (c.mv r s t).a4), .int (k ^ (6 : Int).toNat * (c.mv r s t).a6)]) nG
    have gG0 : upd H9 G (.tup [.int (k * (c.mv r s t).a1), .int (k ^ (2 : Int).toNat * (c.mv r s t).a2), .int (k ^ (3 : Int).toNat * (c.mv r s t).a3), .int (k ^ (4 : Int).toNat * (c.mv r s t).a4), .int (k ^ (6 : Int).toNat * (c.mv r s t).a6)]) G = some (.tup [.int (k * (c.mv r s t).a1), .int (k ^ (2 : Int).toNat * (c.mv r s t).a2), .int (k ^ (3 : Int).toNat * (c.mv r s t).a3), .int (k ^ (4 : Int).toNat * (c.mv r s t).a4), .int (k ^ (6 : Int).toNat * (c.mv r s t).a6)]) := upd_same
    generalize upd H9 G (.tup [.int (k * (c.mv r s t).a1), .int (k ^ (2 : Int).toNat * (c.mv r s t).a2), .int (k ^ (3 : Int).toNat * (c.mv r s t).a3), .int (k ^ (4 : Int).toNat * (c.mv r s t).a4), .int (k ^ (6 : Int).toNat * (c.mv r s t).a6)]) = Ha at sa gG0 ⊢
    have gG : Ha G = some (.tup ((c.mv r s t).up k).tup) := gG0
    refine ⟨_, rfl, G, (c.mv r s t).up k, rfl, tup_of gG, fun Hb sb => ⟨_, rfl, ?_⟩⟩
    have sAB := sa.trans sb
    by_cases l1 : Let ((c.mv r s t).up k)
    · refine iteY (decide_eq_true l1) ?_
      refine ⟨_, rfl, q Hb G _ (bC.trans (But.of sAB)) (m9.same sAB) (tup_of (sb _ _ gG)) l1 ⟨k, k0, ?_, ?_⟩⟩
      · rw [up_c4, mv_c4]
      · rw [up_c6, mv_c6]
    · refine iteN (by simpa using l1) ?_
      refine ⟨_, rfl, F, _, rfl, .inl ⟨lst_of (sAB _ _ gF), fun f nf => ?_⟩⟩
      have sf := Same.new (o := .tup (c.mv r s t).tup) nf
      refine ⟨f, c.mv r s t, rfl, tup_of upd_same, fun Hc sc => ⟨_, rfl, ?_⟩⟩
      have sAC := sAB.trans (sf.trans sc)
      by_cases l2 : Let (c.mv r s t)
      · refine iteY (decide_eq_true l2) ?_
        refine ⟨_, rfl, F, _, rfl, .inl ⟨lst_of (sAC _ _ gF), fun g ng => ?_⟩⟩
        have sg' := Same.new (o := .tup (c.mv r s t).tup) ng
        refine q _ g _ (bC.trans (But.of (sAC.trans sg'))) (m9.same (sAC.trans sg')) (tup_of upd_same) l2 ⟨1, by decide, ?_, ?_⟩
        · rw [mv_c4, Int.one_pow, Int.one_mul]
        · rw [mv_c6, Int.one_pow, Int.one_mul]
      · refine iteN (by simpa using l2) ?_
        refine ⟨_, rfl, q Hc p c (bC.trans (But.of sAC)) (m9.same sAC) (Same.tup sAC hp9) hc ⟨1, by decide, ?_, ?_⟩⟩
        · rw [Int.one_pow, Int.one_mul]
        · rw [Int.one_pow, Int.one_mul]
/-! ### a curve to begin with -/
theorem disc1728 (c : Cv) : 1728 * c.disc = c.c4 * c.c4 * c.c4 - c.c6 * c.c6 := by
  have e : c.b2 * c.b6 - c.b4 * c.b4 = 4 * c.b8 := by
    unfold Cv.b2 Cv.b4 Cv.b6 Cv.b8
    grind
  unfold Cv.disc Cv.c4 Cv.c6
  grind
theorem nz_of {c : Cv} (h : c.disc ≠ 0) : NZ c := by
  by_cases h4 : c.c4 = 0
  · refine Or.inr (fun h6 => h ?_)
    have := disc1728 c
    rw [h4, h6] at this
    omega
  · exact Or.inl h4
/-- such a curve stands there -/
def Cur (K : PySem.W.Frag) (H : Hp) (x : V) : Prop := ∃ p c, x = .ref p ∧ SqT K H p (Cv.tup c) ∧ Let c ∧ NZ c
theorem Cur.same {K : PySem.W.Frag} {H H' : Hp} {x : V} (s : Same H H') (h : Cur K H x) : Cur K H' x := by
  obtain ⟨p, c, e, h1, h2⟩ := h
  exact ⟨p, c, e, Same.tup s h1, h2⟩
theorem Cur.but {K : PySem.W.Frag} {m cl : Addr} {n : Nat} {H H' : Hp} {x : V} (b : But m H H') (hM : MAt H m cl n) (h : Cur K H x) : Cur K H' x := by
  obtain ⟨p, c, e, h1, h2⟩ := h
  exact ⟨p, c, e, b.seqT hM h1, h2⟩
end
end K07
set_option Elab.async false
set_option linter.all false
set_option maxRecDepth 100000
set_option maxHeartbeats 4000000
namespace K07
open PySem PySem.Spec PyProof.Rows L2 Gd QM
section
variable {P : Program} {w : World} {K : PySem.W.Frag} {mg : Str → Option Value} {base : Heap}
def sp_law_start (K : PySem.W.Frag) : Sp := fun vs H Q _ => ∃ (m cl : Addr) (n : Nat), vs = [.ref m] ∧ n ≤ 1000 ∧ MAt H m cl n ∧ ∀ H' x, But m H H' → MAt H' m cl (n + 8) → Cur K H' x → Q x H'
/-- a curve, singular or not -/
def Cu0 (K : PySem.W.Frag) (H : Hp) (x : V) : Prop := ∃ p c, x = .ref p ∧ SqT K H p (Cv.tup c) ∧ Let c
theorem let_sm {a b c d e : Int} (h1 : -1000 ≤ a ∧ a ≤ 1000) (h2 : -1000 ≤ b ∧ b ≤ 1000) (h3 : -1000 ≤ c ∧ c ≤ 1000) (h4 : -1000 ≤ d ∧ d ≤ 1000) (h6 : -1000 ≤ e ∧ e ≤ 1000) : Let ⟨a, b, c, d, e⟩ := ⟨by show a.natAbs ≤ 1000; omega, by show b.natAbs ≤ 1000; omega, by show c.natAbs ≤ 1000; omega, by show d.natAbs ≤ 1000000000; omega, by show e.natAbs ≤ 1000000000; omega⟩
abbrev s__law_start : Stmt := topS 44
theorem sc__law_start : FnScope ["m", "n", "size", "five_v", "k"] ["m"] (defScope s__law_start) := ⟨rfl, rfl, rfl, by decide +kernel, rfl, by decide +kernel, by decide +kernel⟩
theorem k_law_start (T : Tx K mg) (D : Df K mg "_law_start" s__law_start ["m"]) (c_law_of : Kl P w K mg base 2 "_law_of" (sp_law_of K)) (c_law_draw : Kl P w K mg base 1 "_law_draw" (sp_law_draw K)) (c_law_between : Kl P w K mg base 2 "_law_between" (sp_law_between K)) (c_law_numbers : Kl P w K mg base 1 "_law_numbers" (sp_law_numbers K)) : Kl P w K mg base 3 "_law_start" (sp_law_start K) := by
  have nd := sc__law_start.nd
  refine Kl.by_body D sc__law_start (fun vs H Q E h => ?_) (fun f cdv A outer s H vs Q E hr h => ?_)
  · obtain ⟨_, _, _, rfl, _⟩ := h
    rfl
  · obtain ⟨m, cl, n, rfl, hn, hM, q⟩ := h
    have hu1 := hu_of hr
    refine ⟨_, (pss_cons (ps_par (i := 1) (j := 2) (by rfl) nd rfl rfl (by decide) rfl rfl (pa_cons (pe_op op_add pe_int (pe_k c_law_draw  hr (by decide) (by rfl) (pa_cons (pv 0) (pa_cons pe_int pa_nil)))) (pa_cons (pe_k c_law_of  hr (by decide) (by rfl) (pa_cons (pv 0) (pa_cons (pe_lst (pa_cons pe_int (pa_cons pe_int pa_nil))) pa_nil))) pa_nil)) (by rfl))
      (pss_cons (ps_set (i := 3) nd rfl (by first | exact Or.inl rfl | exact Or.inr rfl) (pe_callTy call_tuple_of (by rfl) T.tuple (by decide +kernel) (pa_cons (pe_op op_cat (pe_lc (own := [("k", 4)]) (g := gName 4) rfl nd (pi_range1 (by rfl) T.range (pa_cons pe_int pa_nil)) (blkOk_by (N := ["m", "n", "size", "five_v", "k"]) (sc := defScope s__law_start) (by decide +kernel)) (fun _ _ _ _ _ => (pg_name (i := 4) nd rfl (by first | exact Or.inl rfl | exact Or.inr rfl))) (fun _ _ _ _ _ => pts_nil) (fun _ _ _ _ _ => (pe_k c_law_between  hr (by decide) (by rfl) (pa_cons (pv 0) (pa_cons pe_int pa_nil))))) (pe_lst (pa_cons (pe_k c_law_between  hr (by decide) (by rfl) (pa_cons (pv 0) (pa_cons (pv 2) pa_nil))) (pa_cons (pe_k c_law_between  hr (by decide) (by rfl) (pa_cons (pv 0) (pa_cons (pv 2) pa_nil))) pa_nil)))) pa_nil)))
      (pss_cons (ps_set (i := 3) nd rfl (by first | exact Or.inl rfl | exact Or.inr rfl) (pe_k c_law_of  hr (by decide) (by rfl) (pa_cons (pv 0) (pa_cons (pe_lst (pa_cons (pv 3) (pa_cons (pv 3) (pa_cons (pe_tup (pa_cons pe_int (pa_cons pe_int (pa_cons pe_int (pa_cons pe_int (pa_cons (pv 1) pa_nil)))))) (pa_cons (pe_tup (pa_cons pe_int (pa_cons pe_int (pa_cons pe_int (pa_cons (pv 1) (pa_cons pe_int pa_nil)))))) (pa_cons (pe_tup (pa_cons pe_int (pa_cons pe_int (pa_cons pe_int (pa_cons (pe_un un_neg (pv 1)) (pa_cons pe_int pa_nil)))))) (pa_cons (pe_tup (pa_cons pe_int (pa_cons pe_int (pa_cons pe_int (pa_cons pe_int (pa_cons (pv 1) pa_nil)))))) pa_nil))))))) pa_nil))))
      (pss_one (ps_ret (pe_ifExp (pt_cmpR op_ne (pe_ix ix_tup (pe_k c_law_numbers  hr (by decide) (by rfl) (pa_cons (pv 3) pa_nil)) pe_int (fun _ _ => rfl)) pe_int (nomark _)) (pv 3) (pe_tup (pa_cons pe_int (pa_cons pe_int (pa_cons pe_int (pa_cons (pe_un un_neg pe_int) (pa_cons pe_int pa_nil)))))))))))), ?_⟩
    refine ⟨_, rfl, m, cl, 9, n, rfl, by decide, by decide, by omega, hM, fun H1 x b1 m1 x0 x1 => ?_⟩
    refine ⟨_, _, rfl, rfl, _, rfl, (by show 2 ≤ sizeLine; decide), fun l nl => ?_⟩
    have s2 := Same.new (H := H1) (p := l) (o := .lst [.int 4, .int 30]) nl
    have g2 : upd H1 l (.lst [.int 4, .int 30]) l = some (.lst [.int 4, .int 30]) := upd_same
    generalize upd H1 l (.lst [.int 4, .int 30]) = H2 at s2 g2 ⊢
    have m2 := m1.same s2
    refine ⟨m, cl, l, _, n + 1, rfl, lst_of g2, (by show 0 < 2; decide), (by show 2 ≤ 1000; decide), by omega, m2, fun H3 z b3 m3 hz => ?_⟩
    have hz2 : ∃ k : Int, z = .int k ∧ 0 ≤ k ∧ k ≤ 30 := by
      simp only [List.mem_cons, List.not_mem_nil, or_false] at hz
      rcases hz with rfl | rfl <;> exact ⟨_, rfl, by decide, by decide⟩
    obtain ⟨size, rfl, z0, z1⟩ := hz2
    refine ⟨_, _, rfl, ?_⟩
    have bA : But m H H3 := b1.trans ((But.of s2).trans b3)
    clear s2 g2 m2 b1 m1 b3 hz nl
    first | refine sigN [some (.ref m), some (.int (1 + x)), some (.int (size)), none, none] (by rfl) ?_ | refine sig [some (.ref m), some (.int (1 + x)), some (.int (size)), none, none] (by rfl) ?_
    refine ⟨3, rfl, by decide, by decide, fun D hD => ?_⟩
    have hmD := m3.ne hD
    refine lc_range (lo := 0) (n := 3) (fun i H4 => ∃ L : List Int, H4 D = some (.lst (L.map V.int)) ∧ L.length = i ∧ (∀ y ∈ L, -2 ≤ y ∧ y ≤ 2) ∧ But m H3 H4 ∧ MAt H4 m cl (n + 1 + 1 + i)) ⟨[], upd_same, rfl, (by intro y hy; cases hy), But.of (Same.new hD), m3.same (Same.new hD)⟩ (fun i H4 hi z => ?_) (fun H4 z => ?_)
    · obtain ⟨L, hL, el, hB, b4, m4⟩ := z
      refine ⟨rfl, _, rfl, m, cl, 2, n + 1 + 1 + i, rfl, by decide, by decide, by omega, m4, fun H5 r b5 m5 r0 r1 => ?_⟩
      refine ⟨_, b5.lst m4 hL, by rw [List.length_map]; exact small1000 (by omega), L ++ [r], ?_, by rw [List.length_append, el]; rfl, ?_, fun c o e nc => ?_, ?_⟩
      · rw [upd_same, List.map_append]
        rfl
      · intro y hy
        rcases List.mem_append.mp hy with hy | hy
        · exact hB y hy
        · rw [List.mem_singleton.mp hy]
          exact ⟨by omega, by omega⟩
      · rw [upd_ne (ne_of_none e hD)]
        exact (b4.trans b5) c o e nc
      · exact m5.put hmD
    obtain ⟨L, hL, el, hB, b4, m4⟩ := z
    obtain ⟨c1, c2, c3, rfl⟩ : ∃ c1 c2 c3, L = [c1, c2, c3] := by
      match L, el with
      | [y1, y2, y3], _ => exact ⟨y1, y2, y3, rfl⟩
    have h1 := hB c1 (by simp)
    have h2 := hB c2 (by simp)
    have h3 := hB c3 (by simp)
    refine ⟨_, rfl, _, rfl, m, cl, size, n + 1 + 1 + 3, rfl, by omega, by omega, by omega, m4, fun H5 y4 b5 m5 y40 y41 => ?_⟩
    refine ⟨_, rfl, _, rfl, m, cl, size, n + 1 + 1 + 3 + 1, rfl, by omega, by omega, by omega, m5, fun H6 y6 b6 m6 y60 y61 => ?_⟩
    refine ⟨(by show 2 ≤ sizeLine; decide), fun l2 nl2 => ?_⟩
    have s7 := Same.new (H := H6) (p := l2) (o := .lst [.int y4, .int y6]) nl2
    have g7 : upd H6 l2 (.lst [.int y4, .int y6]) l2 = some (.lst [.int y4, .int y6]) := upd_same
    generalize upd H6 l2 (.lst [.int y4, .int y6]) = H7 at s7 g7 ⊢
    refine ⟨D, l2, _, _, rfl, rfl, s7 _ _ (b6.lst m5 (b5.lst m4 hL)), g7, (by show 3 + 2 ≤ sizeLine; decide), fun l3 nl3 => ?_⟩
    have s8 := Same.new (H := H7) (p := l3) (o := .lst (List.map V.int [c1, c2, c3] ++ [V.int y4, V.int y6])) nl3
    have g8 : upd H7 l3 (.lst (List.map V.int [c1, c2, c3] ++ [V.int y4, V.int y6])) l3 = some (.lst (List.map V.int [c1, c2, c3] ++ [V.int y4, V.int y6])) := upd_same
    generalize upd H7 l3 (.lst (List.map V.int [c1, c2, c3] ++ [V.int y4, V.int y6])) = H8 at s8 g8 ⊢
    refine ⟨l3, _, rfl, .inl ⟨lst_of g8, fun f nf => ?_⟩⟩
    have s9 := Same.new (H := H8) (p := f) (o := .tup (List.map V.int [c1, c2, c3] ++ [V.int y4, V.int y6])) nf
    have g9 : upd H8 f (.tup (List.map V.int [c1, c2, c3] ++ [V.int y4, V.int y6])) f = some (.tup (List.map V.int [c1, c2, c3] ++ [V.int y4, V.int y6])) := upd_same
    generalize upd H8 f (.tup (List.map V.int [c1, c2, c3] ++ [V.int y4, V.int y6])) = H9 at s9 g9 ⊢
    have gf : H9 f = some (.tup (Cv.tup ⟨c1, c2, c3, y4, y6⟩)) := g9
    have m9 := ((m6.same s7).same s8).same s9
    have bB : But m H H9 := bA.trans (b4.trans (b5.trans (b6.trans (But.of (s7.trans (s8.trans s9))))))
    clear s7 s8 s9 g7 g8 g9 b4 b5 b6 bA hL hB m3 m4 m5 m6 hD hmD nl2 nl3 nf hM el
    first | refine sigN [some (.ref m), some (.int (1 + x)), some (.int size), some (.ref f), none] (by rfl) ?_ | refine sig [some (.ref m), some (.int (1 + x)), some (.int size), some (.ref f), none] (by rfl) ?_
    refine ⟨_, rfl, .ref f, rfl, .ref f, rfl, _, rfl, (by show 5 ≤ sizeLine; decide), fun t1 nt1 => ?_⟩
    have sa := Same.new (H := H9) (p := t1) (o := .tup [.int 0, .int 0, .int 0, .int 0, .int (1 + x)]) nt1
    have ga : upd H9 t1 (.tup [.int 0, .int 0, .int 0, .int 0, .int (1 + x)]) t1 = some (.tup [.int 0, .int 0, .int 0, .int 0, .int (1 + x)]) := upd_same
    generalize upd H9 t1 (.tup [.int 0, .int 0, .int 0, .int 0, .int (1 + x)]) = Ha at sa ga ⊢
    refine ⟨_, rfl, (by show 5 ≤ sizeLine; decide), fun t2 nt2 => ?_⟩
    have sb := Same.new (H := Ha) (p := t2) (o := .tup [.int 0, .int 0, .int 0, .int (1 + x), .int 0]) nt2
    have gb : upd Ha t2 (.tup [.int 0, .int 0, .int 0, .int (1 + x), .int 0]) t2 = some (.tup [.int 0, .int 0, .int 0, .int (1 + x), .int 0]) := upd_same
    generalize upd Ha t2 (.tup [.int 0, .int 0, .int 0, .int (1 + x), .int 0]) = Hb at sb gb ⊢
    refine ⟨_, rfl, _, rfl, (by show 5 ≤ sizeLine; decide), fun t3 nt3 => ?_⟩
    have sc := Same.new (H := Hb) (p := t3) (o := .tup [.int 0, .int 0, .int 0, .int (-(1 + x)), .int 0]) nt3
    have gc : upd Hb t3 (.tup [.int 0, .int 0, .int 0, .int (-(1 + x)), .int 0]) t3 = some (.tup [.int 0, .int 0, .int 0, .int (-(1 + x)), .int 0]) := upd_same
    generalize upd Hb t3 (.tup [.int 0, .int 0, .int 0, .int (-(1 + x)), .int 0]) = Hc at sc gc ⊢
    refine ⟨_, rfl, (by show 5 ≤ sizeLine; decide), fun t4 nt4 => ?_⟩
    have sd := Same.new (H := Hc) (p := t4) (o := .tup [.int 0, .int 0, .int 1, .int 0, .int (1 + x)]) nt4
    have gd : upd Hc t4 (.tup [.int 0, .int 0, .int 1, .int 0, .int (1 + x)]) t4 = some (.tup [.int 0, .int 0, .int 1, .int 0, .int (1 + x)]) := upd_same
    generalize upd Hc t4 (.tup [.int 0, .int 0, .int 1, .int 0, .int (1 + x)]) = Hd at sd gd ⊢
    refine ⟨(by show 6 ≤ sizeLine; decide), fun l4 nl4 => ?_⟩
    have se := Same.new (H := Hd) (p := l4) (o := .lst [.ref f, .ref f, .ref t1, .ref t2, .ref t3, .ref t4]) nl4
    have ge : upd Hd l4 (.lst [.ref f, .ref f, .ref t1, .ref t2, .ref t3, .ref t4]) l4 = some (.lst [.ref f, .ref f, .ref t1, .ref t2, .ref t3, .ref t4]) := upd_same
    generalize upd Hd l4 (.lst [.ref f, .ref f, .ref t1, .ref t2, .ref t3, .ref t4]) = He at se ge ⊢
    have sAll := sa.trans (sb.trans (sc.trans (sd.trans se)))
    have all6 : ∀ y ∈ [V.ref f, .ref f, .ref t1, .ref t2, .ref t3, .ref t4], Cu0 K He y := by
      intro y hy
      simp only [List.mem_cons, List.not_mem_nil, or_false] at hy
      rcases hy with rfl | rfl | rfl | rfl | rfl | rfl
      · exact ⟨f, _, rfl, tup_of (sAll _ _ gf), let_sm (by omega) (by omega) (by omega) (by omega) (by omega)⟩
      · exact ⟨f, _, rfl, tup_of (sAll _ _ gf), let_sm (by omega) (by omega) (by omega) (by omega) (by omega)⟩
      · exact ⟨t1, ⟨0, 0, 0, 0, 1 + x⟩, rfl, tup_of (se _ _ (sd _ _ (sc _ _ (sb _ _ ga)))), let_sm (by omega) (by omega) (by omega) (by omega) (by omega)⟩
      · exact ⟨t2, ⟨0, 0, 0, 1 + x, 0⟩, rfl, tup_of (se _ _ (sd _ _ (sc _ _ gb))), let_sm (by omega) (by omega) (by omega) (by omega) (by omega)⟩
      · exact ⟨t3, ⟨0, 0, 0, -(1 + x), 0⟩, rfl, tup_of (se _ _ (sd _ _ gc)), let_sm (by omega) (by omega) (by omega) (by omega) (by omega)⟩
      · exact ⟨t4, ⟨0, 0, 1, 0, 1 + x⟩, rfl, tup_of (se _ _ gd), let_sm (by omega) (by omega) (by omega) (by omega) (by omega)⟩
    have me := m9.same sAll
    refine ⟨m, cl, l4, _, n + 1 + 1 + 3 + 1 + 1, rfl, lst_of ge, (by show 0 < 6; decide), (by show 6 ≤ 1000; decide), by omega, me, fun Hf y bf mf hy => ?_⟩
    obtain ⟨p, c, rfl, hp0, hc⟩ := all6 y hy
    have hp := bf.seqT me hp0
    have bC : But m H Hf := bB.trans ((But.of sAll).trans bf)
    clear all6 hy sa sb sc sd se ga gb gc gd ge gf sAll me m9 bB bf hp0
    first | refine sigN [some (.ref m), some (.int (1 + x)), some (.int (size)), some (.ref p), none] (by rfl) ?_ | refine sig [some (.ref m), some (.int (1 + x)), some (.int (size)), some (.ref p), none] (by rfl) ?_
    refine ⟨.ref p, rfl, p, c, rfl, hp, hc.sm, fun t nt => ?_⟩
    have st := Same.new (H := Hf) (p := t) (o := .tup c.nums) nt
    refine ⟨t, _, 6, .int c.disc, rfl, rfl, tup_of upd_same, rfl, rfl, _, rfl, ?_⟩
    rw [dec_int]
    by_cases h0 : c.disc = 0
    · refine iteN (by simp [h0]) ?_
      refine ⟨_, rfl, (by show 5 ≤ sizeLine; decide), fun t5 nt5 => ?_⟩
      have s5 := Same.new (o := .tup [.int 0, .int 0, .int 1, .int (-1), .int 0]) nt5
      exact q _ _ (bC.trans (But.of (st.trans s5))) (mf.same (st.trans s5)) ⟨t5, ⟨0, 0, 1, -1, 0⟩, rfl, tup_of upd_same, by decide, Or.inl (by decide)⟩
    · refine iteY (by simp [h0]) ?_
      exact ⟨_, rfl, q _ _ (bC.trans (But.of st)) (mf.same st) ⟨p, c, rfl, Same.tup st hp, hc, nz_of h0⟩⟩
end
end K07
set_option Elab.async false
set_option linter.all false
set_option maxRecDepth 100000
set_option maxHeartbeats 400000
namespace K07
open PySem PySem.Spec PyProof.Rows L2 Gd QM
local macro_rules | `(tactic| walk_at "bd") => `(tactic| (repeat (first | assumption | apply B.add | apply B.sub | apply B.mul | apply B.neg | exact B.lit (n := 8) (by decide))))
local macro_rules | `(tactic| walk_at "bu") => `(tactic| (apply B.up; walk_at "bd"; decide))
local macro_rules | `(tactic| walk_at "bnd") => `(tactic| (apply B.mulW; walk_at "bd"; decide))
local macro_rules | `(tactic| walk_at "pw") => `(tactic| exact B.up (n := 64) (by assumption) (by decide))
section
variable {P : Program} {w : World} {K : PySem.W.Frag} {mg : Str → Option Value} {base : Heap}
/-! ### pairs of curves -/
def Pr (K : PySem.W.Frag) (H : Hp) (v : V) : Prop := ∃ t x y, v = .ref t ∧ H t = some (.tup [x, y]) ∧ Cur K H x ∧ Cur K H y
theorem Pr.same {H H' : Hp} {v : V} (s : Same H H') (h : Pr K H v) : Pr K H' v := by
  obtain ⟨t, x, y, e, h1, h2, h3⟩ := h
  exact ⟨t, x, y, e, s _ _ h1, h2.same s, h3.same s⟩
theorem Cur.put {H : Hp} {D : Addr} {L : List V} {o : HO} {x : V} (hD : H D = some (.lst L)) (h : Cur K H x) : Cur K (upd H D o) x := by
  obtain ⟨p, c, e, h1, h2⟩ := h
  exact ⟨p, c, e, tup_put hD h1, h2⟩
theorem Pr.put {H : Hp} {D : Addr} {L : List V} {o : HO} {v : V} (hD : H D = some (.lst L)) (h : Pr K H v) : Pr K (upd H D o) v := by
  obtain ⟨t, x, y, e, h1, h2, h3⟩ := h
  refine ⟨t, x, y, e, ?_, h2.put hD, h3.put hD⟩
  rw [upd_ne (ne_of h1 hD (by intro z; cases z))]
  exact h1
def PrD (K : PySem.W.Frag) (H : Hp) (D : Addr) (i : Nat) : Prop := ∃ L, H D = some (.lst L) ∧ L.length = i ∧ ∀ v ∈ L, Pr K H v
theorem PrD.new {H : Hp} {D : Addr} : PrD K (upd H D (.lst [])) D 0 := ⟨[], upd_same, rfl, fun v h => by cases h⟩
theorem PrD.push {H : Hp} {D t : Addr} {i : Nat} {x y : V} (h : PrD K H D i) (nt : H t = none) (hx : Cur K H x) (hy : Cur K H y) (hl : i < 1000) :
    ∃ acc, (upd H t (.tup [x, y])) D = some (.lst acc) ∧ acc.length < sizeLine ∧ PrD K (upd (upd H t (.tup [x, y])) D (.lst (acc ++ [.ref t]))) D (i + 1) := by
  obtain ⟨L, h1, h2, h3⟩ := h
  have hDt : D ≠ t := ne_of_none h1 nt
  have s := Same.new (o := .tup [x, y]) nt
  have hD := s _ _ h1
  refine ⟨L, hD, small1000 (by omega), L ++ [.ref t], upd_same, by rw [List.length_append, h2]; rfl, fun v hv => ?_⟩
  rcases List.mem_append.mp hv with hv | hv
  · exact ((h3 v hv).same s).put hD
  · rw [List.mem_singleton.mp hv]
    refine Pr.put hD ⟨t, x, y, rfl, upd_same, hx.same s, hy.same s⟩
/-! ### the curve that is bent -/
def nearOf (c : Cv) (k x : Int) : Cv := if k = 3 then ⟨c.a1, c.a2, c.a3, c.a4 + x, c.a6⟩ else ⟨c.a1, c.a2, c.a3, c.a4, c.a6 + x⟩
def fourth (c : Cv) (k : Int) : Int := if k = 3 then c.a4 else c.a6
theorem near_at {c : Cv} {k : Int} (h : k = 3 ∨ k = 4) : atI c.tup k = some (.int (fourth c k)) := by
  rcases h with rfl | rfl <;> rfl
theorem near_cut {c : Cv} {k x : Int} (h : k = 3 ∨ k = 4) : cutV c.tup none (some k) ++ [.int (fourth c k + x)] ++ cutV c.tup (some (k + 1)) none = (nearOf c k x).tup := by
  rcases h with rfl | rfl <;> rfl
theorem near_len {c : Cv} {k : Int} (h : k = 3 ∨ k = 4) : (cutV c.tup none (some k)).length = k.toNat ∧ (cutV c.tup (some (k + 1)) none).length = 4 - k.toNat := by
  rcases h with rfl | rfl <;> exact ⟨rfl, rfl⟩
theorem near_sm {c : Cv} {k x : Int} (h : Let c) (h0 : -1 ≤ x) (h1 : x ≤ 2) : (nearOf c k x).Sm := by
  obtain ⟨h1, h2, h3, h4, h6⟩ := h
  unfold nearOf
  split <;> (refine ⟨?_, ?_, ?_, ?_, ?_⟩ <;> (unfold B; dsimp only; omega))
/-! ### the twist -/
def twOf (c : Cv) (d : Int) : Cv := ⟨0, 0, 0, -27 * c.c4 * d * d, -54 * c.c6 * d ^ (3 : Int).toNat⟩
theorem flat_c4 (p q : Int) : (Cv.mk 0 0 0 p q).c4 = -48 * p := by
  unfold Cv.c4 Cv.b4 Cv.b2
  grind
theorem flat_c6 (p q : Int) : (Cv.mk 0 0 0 p q).c6 = -864 * q := by
  unfold Cv.c6 Cv.b6 Cv.b4 Cv.b2
  grind
theorem tw_nz {c : Cv} {d : Int} (h : NZ c) (hd : d ≠ 0) : NZ (twOf c d) := by
  have e4 : (twOf c d).c4 = 1296 * (c.c4 * (d * d)) := by
    unfold twOf
    rw [flat_c4]
    grind
  have e6 : (twOf c d).c6 = 46656 * (c.c6 * (d ^ 3)) := by
    unfold twOf
    rw [flat_c6]
    show -864 * (-54 * c.c6 * d ^ 3) = _
    grind
  have d3 : d ^ 3 ≠ 0 := Int.pow_ne_zero hd
  rcases h with h | h
  · exact Or.inl (by rw [e4]; exact mul_ne (by decide) (mul_ne h (mul_ne hd hd)))
  · exact Or.inr (by rw [e6]; exact mul_ne (by decide) (mul_ne h d3))
/-! ### what is told, as data -/
theorem ok_ch {c e : Cv} {u : Rat} (hc : c.Sm) (he : e.Sm) (hu : RB 160 u) : okD (dch c e u) = true := by
  have h1 := okq hu (by decide)
  have h2 := okq (cR_B hc he hu) (by decide)
  have h3 := okq (cS_B hc he hu) (by decide)
  have h4 := okq (cT_B hc he hu) (by decide)
  unfold dch
  rw [okD, okAll, okAll, okAll, okAll, okAll, h1, h2, h3, h4]
  rfl
theorem ok_both {c e : Cv} {u : Rat} (hc : c.Sm) (he : e.Sm) (hu : RB 160 u) : okD (.list [dboth c e u, .bool true]) = true := by
  have h1 := ok_ch hc he hu
  have h2 := ok_ch hc he hu.neg
  unfold dboth
  simp [okD, okAll, h1, h2]
theorem neSame {x : V} {F : Bool → Hp → Prop} {H : Hp} (h : F false H) : F (!decide (x = x)) H := by
  rw [decide_eq_true rfl]
  exact h
theorem both_depth (c e : Cv) (u : Rat) : (PyData.list [dboth c e u, .bool true]).depth ≤ 40 := by simp [PyData.depth, PyData.depthAll, dboth, dch, dq]
theorem both_wt (c e : Cv) (u : Rat) : wt (PyData.list [dboth c e u, .bool true]) ≤ 1000000 := by simp [wt, wtAll, dboth, dch, dq]
theorem both_shaped (c e : Cv) (u : Rat) : SeqAt.shaped (dboth c e u) = true := rfl
theorem both_nil (c e : Cv) (u : Rat) : PyData.eqv (dboth c e u) (.tuple []) = false := rfl
def sp_law_right (K : PySem.W.Frag) : Sp := fun vs H Q _ => ∃ (m cl : Addr) (n : Nat), vs = [.ref m] ∧ n ≤ 100 ∧ MAt H m cl n ∧ ∀ H', But m H H' → Q (.bl true) H'
theorem but_put {m lo : Addr} {H H' : Hp} {o : HO} (b : But m H H') (h : H lo = none) : But m H (upd H' lo o) := fun c x e n => by
  rw [upd_ne (ne_of_none e h)]
  exact b c x e n
abbrev s__law_right : Stmt := topS 45
theorem sc__law_right : FnScope ["m", "five_v", "far", "d", "c4", "c6", "twist", "k", "near", "others", "one", "two", "other", "due"] ["m"] (defScope s__law_right) := ⟨rfl, rfl, rfl, by decide +kernel, rfl, by decide +kernel, by decide +kernel⟩
theorem k_law_right (T : Tx K mg) (D : Df K mg "_law_right" s__law_right ["m"]) (c_law_start : Kl P w K mg base 3 "_law_start" (sp_law_start K)) (c_law_far : Kl P w K mg base 3 "_law_far" (sp_law_far K)) (c_law_of : Kl P w K mg base 2 "_law_of" (sp_law_of K)) (c_law_numbers : Kl P w K mg base 1 "_law_numbers" (sp_law_numbers K)) (c_law_draw : Kl P w K mg base 1 "_law_draw" (sp_law_draw K)) (c_law_is_let : Kl P w K mg base 1 "_law_is_let" (sp_law_is_let K)) (c_law_due : Kl P w K mg base 6 "_law_due" (sp_law_due K)) (c_changes_between : Kl P w K mg base 6 "changes_between" (sp_changes_between K)) (c_are_alike : Kl P w K mg base 6 "are_alike" (sp_are_alike K)) : Kg P w K mg base 7 "_law_right" (sp_law_right K) := by
  have nd := sc__law_right.nd
  refine Kg.by_body D sc__law_right (fun vs H Q E h => ?_) (fun f cdv A outer s H vs Q E hgd hr h => ?_)
  · obtain ⟨_, _, _, rfl, _⟩ := h
    rfl
  · obtain ⟨m, cl, n, rfl, hn, hM, q⟩ := h
    have hu1 := hu_of hr
    refine ⟨_, (pss_cons (ps_set (i := 1) nd rfl (by first | exact Or.inl rfl | exact Or.inr rfl) (pe_k c_law_start  hr (by decide) (by rfl) (pa_cons (pv 0) pa_nil)))
      (pss_cons (ps_par (i := 2) (j := 3) (by rfl) nd rfl rfl (by decide) rfl rfl (pa_cons (pe_k c_law_far  hr (by decide) (by rfl) (pa_cons (pv 0) (pa_cons (pv 1) pa_nil))) (pa_cons (pe_k c_law_of  hr (by decide) (by rfl) (pa_cons (pv 0) (pa_cons (pe_lst (pa_cons pe_int (pa_cons (pe_un un_neg pe_int) (pa_cons pe_int (pa_cons pe_int (pa_cons (pe_un un_neg pe_int) pa_nil)))))) pa_nil))) pa_nil)) (by rfl))
      (pss_cons (ps_asg (pe_slice sl_tupA (pe_k c_law_numbers  hr (by decide) (by rfl) (pa_cons (pv 1) pa_nil)) (po_some pe_int) (po_some pe_int)) (pg_tup rfl (pgs_cons (pg_name (i := 4) nd rfl (by first | exact Or.inl rfl | exact Or.inr rfl)) (pgs_cons (pg_name (i := 5) nd rfl (by first | exact Or.inl rfl | exact Or.inr rfl)) pgs_nil))))
      (pss_cons (ps_set (i := 6) nd rfl (by first | exact Or.inl rfl | exact Or.inr rfl) (pe_tup (pa_cons pe_int (pa_cons pe_int (pa_cons pe_int (pa_cons (pe_op op_mulW (pe_op op_mulW (pe_op op_mul (pe_un un_neg pe_int) (pv 4)) (pv 3)) (pv 3)) (pa_cons (pe_op op_mulW (pe_op op_mul (pe_un un_neg pe_int) (pv 5)) (pe_op op_pow (pv 3) pe_int)) pa_nil)))))))
      (pss_cons (ps_set (i := 7) nd rfl (by first | exact Or.inl rfl | exact Or.inr rfl) (pe_op op_add pe_int (pe_k c_law_draw  hr (by decide) (by rfl) (pa_cons (pv 0) (pa_cons pe_int pa_nil)))))
      (pss_cons (ps_set (i := 8) nd rfl (by first | exact Or.inl rfl | exact Or.inr rfl) (pe_op op_catA (pe_op op_catA (pe_slice sl_tupA (pv 2) po_none (po_some (pv 7))) (pe_tup (pa_cons (pe_op op_add (pe_ix ix_tup (pv 2) (pv 7) (fun _ _ => rfl)) (pe_k c_law_of  hr (by decide) (by rfl) (pa_cons (pv 0) (pa_cons (pe_lst (pa_cons pe_int (pa_cons (pe_un un_neg pe_int) (pa_cons pe_int pa_nil)))) pa_nil)))) pa_nil))) (pe_slice sl_tupA (pv 2) (po_some (pe_op op_add (pv 7) pe_int)) po_none)))
      (C8.pss_cut (ps_set (i := 9) nd rfl (by first | exact Or.inl rfl | exact Or.inr rfl) (pe_op op_cat (pe_lst (pa_cons (pv 1) (pa_cons (pv 2) (pa_cons (pe_k c_law_far  hr (by decide) (by rfl) (pa_cons (pv 0) (pa_cons (pv 2) pa_nil))) (pa_cons (pe_k c_law_start  hr (by decide) (by rfl) (pa_cons (pv 0) pa_nil)) pa_nil))))) (pe_ifExp (pt_val (pe_k c_law_is_let  hr (by decide) (by rfl) (pa_cons (pv 6) pa_nil))) (pe_lst (pa_cons (pv 6) pa_nil)) (pe_lst (pa_cons (pv 1) pa_nil)))))
      (C8.pss_cut (ps_if (PW.pt (pw_and (pt_cmpR op_ne (pe_ix ix_tup (pe_k c_law_numbers  hr (by decide) (by rfl) (pa_cons (pv 8) pa_nil)) pe_int (fun _ _ => rfl)) pe_int (nomark _)) (pw_and1 (pt_val (pe_k c_law_is_let  hr (by decide) (by rfl) (pa_cons (pv 8) pa_nil)))))) (pss_one (ps_expr (pe_bm PySem.F.plainAttrs_list PySem.F.slot_list_append PySem.F.type_list_append mt_append (pv 9) (pa_cons (pv 8) pa_nil)))) pss_nil)
      (pss_cons (ps_for PassesOwn.never rfl (pi_list (pe_op op_cat (pe_op op_cat (pe_lc (own := [("other", 12)]) (g := gName 12) rfl nd (pi_list (pv 9)) (blkOk_by (N := ["m", "five_v", "far", "d", "c4", "c6", "twist", "k", "near", "others", "one", "two", "other", "due"]) (sc := defScope s__law_right) (by decide +kernel)) (fun _ _ _ _ _ => (pg_name (i := 12) nd rfl (by first | exact Or.inl rfl | exact Or.inr rfl))) (fun _ _ _ _ _ => pts_nil) (fun _ _ _ _ _ => (pe_tup (pa_cons (pv 1) (pa_cons (pv 12) pa_nil))))) (pe_lc (own := [("other", 12)]) (g := gName 12) rfl nd (pi_list (pv 9)) (blkOk_by (N := ["m", "five_v", "far", "d", "c4", "c6", "twist", "k", "near", "others", "one", "two", "other", "due"]) (sc := defScope s__law_right) (by decide +kernel)) (fun _ _ _ _ _ => (pg_name (i := 12) nd rfl (by first | exact Or.inl rfl | exact Or.inr rfl))) (fun _ _ _ _ _ => pts_nil) (fun _ _ _ _ _ => (pe_tup (pa_cons (pv 12) (pa_cons (pv 1) pa_nil)))))) (pe_lst (pa_cons (pe_tup (pa_cons (pv 2) (pa_cons (pe_ix ix_list (pv 9) pe_int (fun _ _ => rfl)) pa_nil))) pa_nil)))) (pg_tup rfl (pgs_cons (pg_name (i := 10) nd rfl (by first | exact Or.inl rfl | exact Or.inr rfl)) (pgs_cons (pg_name (i := 11) nd rfl (by first | exact Or.inl rfl | exact Or.inr rfl)) pgs_nil))) (pss_cons (ps_set (i := 13) nd rfl (by first | exact Or.inl rfl | exact Or.inr rfl) (pe_k c_law_due  hr (by decide) (by rfl) (pa_cons (pv 10) (pa_cons (pv 11) pa_nil))))
      (pss_one (ps_if (pt_cmpR op_ne (pe_callB (call_reprD hgd hr.units) (by rfl) T.repr (by decide +kernel) (pa_cons (pe_lst (pa_cons (pe_k c_changes_between  hr (by decide) (by rfl) (pa_cons (pv 10) (pa_cons (pv 11) pa_nil))) (pa_cons (pe_k c_are_alike  hr (by decide) (by rfl) (pa_cons (pv 10) (pa_cons (pv 11) pa_nil))) pa_nil))) pa_nil)) (pe_callB (call_reprD hgd hr.units) (by rfl) T.repr (by decide +kernel) (pa_cons (pe_lst (pa_cons (pv 13) (pa_cons (pe_cmpR (op_neD hr.units) (pv 13) (pe_tup pa_nil) (nomark _)) pa_nil))) pa_nil)) (nomark _)) (pss_one (ps_ret pe_bl)) pss_nil))))
      (pss_one (ps_ret (pe_cmpR (op_neD hr.units) (pe_k c_law_due  hr (by decide) (by rfl) (pa_cons (pv 1) (pa_cons (pv 2) pa_nil))) (pe_tup pa_nil) (nomark _))))))))))))), ?_⟩
    refine ⟨_, rfl, m, cl, n, rfl, by omega, hM, fun H1 x b1 m1 hx => ?_⟩
    obtain ⟨p, c, rfl, hp, hc, nc⟩ := hx
    first | refine sigN [some (.ref m), some (.ref p), none, none, none, none, none, none, none, none, none, none, none, none] (by rfl) ?_ | refine sig [some (.ref m), some (.ref p), none, none, none, none, none, none, none, none, none, none, none, none] (by rfl) ?_
    refine ⟨_, rfl, .ref p, rfl, m, cl, p, c, n + 8, rfl, hp, hc, by omega, m1, fun H2 F f b2 m2 hF lF fF => ?_⟩
    refine ⟨_, rfl, _, rfl, _, rfl, (by show 5 ≤ sizeLine; decide), fun l nl => ?_⟩
    have s3 := Same.new (H := H2) (p := l) (o := .lst [.int 2, .int (-1), .int 3, .int 4, .int (-4)]) nl
    have g3 : upd H2 l (.lst [.int 2, .int (-1), .int 3, .int 4, .int (-4)]) l = some (.lst [.int 2, .int (-1), .int 3, .int 4, .int (-4)]) := upd_same
    generalize upd H2 l (.lst [.int 2, .int (-1), .int 3, .int 4, .int (-4)]) = H3 at s3 g3 ⊢
    have m3 := m2.same s3
    refine ⟨m, cl, l, _, n + 8 + 4, rfl, lst_of g3, (by show 0 < 5; decide), (by show 5 ≤ 1000; decide), by omega, m3, fun H4 z b4 m4 hz => ?_⟩
    have hz2 : ∃ d : Int, z = .int d ∧ d ≠ 0 ∧ -4 ≤ d ∧ d ≤ 4 := by
      simp only [List.mem_cons, List.not_mem_nil, or_false] at hz
      rcases hz with rfl | rfl | rfl | rfl | rfl <;> exact ⟨_, rfl, by decide, by decide, by decide⟩
    obtain ⟨d, rfl, d0, d1, d2⟩ := hz2
    have hp4 : SqT K H4 p c.tup := b4.seqT m3 (Same.tup s3 (b2.seqT m1 hp))
    have hF4 : SqT K H4 F f.tup := b4.seqT m3 (Same.tup s3 hF)
    have bA : But m H H4 := b1.trans (b2.trans ((But.of s3).trans b4))
    clear b1 b2 b4 s3 g3 m3 hz nl hp hF m1 m2
    refine ⟨_, _, rfl, ?_⟩
    first | refine sigN [some (.ref m), some (.ref p), some (.ref F), some (.int (d)), none, none, none, none, none, none, none, none, none, none] (by rfl) ?_ | refine sig [some (.ref m), some (.ref p), some (.ref F), some (.int (d)), none, none, none, none, none, none, none, none, none, none] (by rfl) ?_
    refine ⟨.ref p, rfl, p, c, rfl, hp4, hc.sm, fun t nt => ?_⟩
    have s5 := Same.new (H := H4) (p := t) (o := .tup c.nums) nt
    have g5 : upd H4 t (.tup c.nums) t = some (.tup c.nums) := upd_same
    generalize upd H4 t (.tup c.nums) = H5 at s5 g5 ⊢
    refine ⟨4, rfl, 6, rfl, slA_any (tup_of g5) fun p1 H6 s6 e1 => ?_⟩
    refine ⟨p1, _, rfl, e1, rfl, _, _, rfl, _, _, rfl, rfl, ?_⟩
    first | refine sigN [some (.ref m), some (.ref p), some (.ref F), some (.int (d)), some (.int (c.c4)), some (.int (c.c6)), none, none, none, none, none, none, none, none] (by rfl) ?_ | refine sig [some (.ref m), some (.ref p), some (.ref F), some (.int (d)), some (.int (c.c4)), some (.int (c.c6)), none, none, none, none, none, none, none, none] (by rfl) ?_
    have c4B := hc.sm.c4
    have c6B := hc.sm.c6
    have dB : B 3 d := B.between 4 (by omega) (by omega) (by decide)
    have d3B : B 10 (d ^ (3 : Int).toNat) := dB.pow 3
    refine ⟨_, rfl, _, rfl, _, _, rfl, rfl, (Or.inl ⟨by decide, by decide⟩), _, rfl, _, _, rfl, rfl, (by walk_at "bnd"), _, rfl, _, _, rfl, rfl, (by walk_at "bnd"), _, rfl, _, rfl, _, _, rfl, rfl, (Or.inl ⟨by decide, by decide⟩), _, rfl, _, _, rfl, rfl, ⟨by decide, by decide, by walk_at "pw"⟩, _, _, rfl, rfl, (by walk_at "bnd"), (by show 5 ≤ sizeLine; decide), fun tw ntw => ?_⟩
    have s7 := Same.new (H := H6) (p := tw) (o := .tup [.int 0, .int 0, .int 0, .int (-27 * c.c4 * d * d), .int (-54 * c.c6 * d ^ (3 : Int).toNat)]) ntw
    have g7 : upd H6 tw (.tup [.int 0, .int 0, .int 0, .int (-27 * c.c4 * d * d), .int (-54 * c.c6 * d ^ (3 : Int).toNat)]) tw = some (.tup [.int 0, .int 0, .int 0, .int (-27 * c.c4 * d * d), .int (-54 * c.c6 * d ^ (3 : Int).toNat)]) := upd_same
    generalize upd H6 tw (.tup [.int 0, .int 0, .int 0, .int (-27 * c.c4 * d * d), .int (-54 * c.c6 * d ^ (3 : Int).toNat)]) = H7 at s7 g7 ⊢
    first | refine sigN [some (.ref m), some (.ref p), some (.ref F), some (.int (d)), some (.int (c.c4)), some (.int (c.c6)), some (.ref tw), none, none, none, none, none, none, none] (by rfl) ?_ | refine sig [some (.ref m), some (.ref p), some (.ref F), some (.int (d)), some (.int (c.c4)), some (.int (c.c6)), some (.ref tw), none, none, none, none, none, none, none] (by rfl) ?_
    have sA := s5.trans (s6.trans s7)
    have m7 := m4.same sA
    have bB : But m H H7 := bA.trans (But.of sA)
    have hp7 := Same.tup sA hp4
    have hF7 := Same.tup sA hF4
    have hT7 : SqT K H7 tw (twOf c d).tup := tup_of g7
    clear s5 s6 s7 g5 g7 e1 sA hp4 hF4 m4 bA nt ntw c4B c6B dB d3B
    refine ⟨_, rfl, m, cl, 2, n + 8 + 4 + 1, rfl, by decide, by decide, by omega, m7, fun H8 k0 b8 m8 k00 k01 => ?_⟩
    refine ⟨_, _, rfl, rfl, ?_⟩
    obtain ⟨k, hk⟩ : ∃ k : Int, 3 + k0 = k := ⟨_, rfl⟩
    have hk34 : k = 3 ∨ k = 4 := by omega
    first | refine sigN [some (.ref m), some (.ref p), some (.ref F), some (.int d), some (.int c.c4), some (.int c.c6), some (.ref tw), some (.int k), none, none, none, none, none, none] (by rw [← hk]; rfl) ?_ | skip
    have hp8 := b8.seqT m7 hp7
    have hF8 := b8.seqT m7 hF7
    have hT8 := b8.seqT m7 hT7
    have bC : But m H H8 := bB.trans b8
    clear hp7 hF7 hT7 bB b8 m7 hk k00 k01
    refine ⟨.ref F, rfl, _, rfl, k, rfl, slA_any hF8 fun p2 H9 s9 e2 => ?_⟩
    refine ⟨.ref F, rfl, _, rfl, F, _, k, .int (fourth f k), rfl, rfl, Same.tup s9 hF8, near_at hk34, ?_⟩
    refine ⟨_, rfl, _, rfl, (by show 3 ≤ sizeLine; decide), fun l2 nl2 => ?_⟩
    have sa := Same.new (H := H9) (p := l2) (o := .lst [.int 1, .int (-1), .int 2]) nl2
    have ga : upd H9 l2 (.lst [.int 1, .int (-1), .int 2]) l2 = some (.lst [.int 1, .int (-1), .int 2]) := upd_same
    generalize upd H9 l2 (.lst [.int 1, .int (-1), .int 2]) = Ha at sa ga ⊢
    have ma := (m8.same s9).same sa
    refine ⟨m, cl, l2, _, n + 8 + 4 + 1 + 1, rfl, lst_of ga, (by show 0 < 3; decide), (by show 3 ≤ 1000; decide), by omega, ma, fun Hb z b1 mb hz => ?_⟩
    have hz2 : ∃ d : Int, z = .int d ∧ -1 ≤ d ∧ d ≤ 2 := by
      simp only [List.mem_cons, List.not_mem_nil, or_false] at hz
      rcases hz with rfl | rfl | rfl <;> exact ⟨_, rfl, by decide, by decide⟩
    obtain ⟨y, rfl, y0, y1⟩ := hz2
    have e2b : SqT K Hb p2 (cutV f.tup none (some k)) := b1.seqT ma (Same.tup sa e2)
    have hFb : SqT K Hb F f.tup := b1.seqT ma (Same.tup sa (Same.tup s9 hF8))
    have hpb : SqT K Hb p c.tup := b1.seqT ma (Same.tup sa (Same.tup s9 hp8))
    have hTb : SqT K Hb tw (twOf c d).tup := b1.seqT ma (Same.tup sa (Same.tup s9 hT8))
    have bD : But m H Hb := bC.trans ((But.of (s9.trans sa)).trans b1)
    clear hz ma b1 sa ga s9 e2 hF8 hp8 hT8 bC m8 nl2
    refine ⟨_, _, rfl, rfl, (by show 1 ≤ sizeLine; decide), fun u nu => ?_⟩
    have sc := Same.new (H := Hb) (p := u) (o := .tup [.int (fourth f k + y)]) nu
    have gc : upd Hb u (.tup [.int (fourth f k + y)]) u = some (.tup [.int (fourth f k + y)]) := upd_same
    generalize upd Hb u (.tup [.int (fourth f k + y)]) = Hc at sc gc ⊢
    obtain ⟨len1, len2⟩ := near_len (c := f) hk34
    refine catA_any (Same.tup sc e2b) (tup_of gc) (by show _ + 1 ≤ 1000; omega) fun p3 Hd sd e3 => ?_
    have scd := sc.trans sd
    refine ⟨.ref F, rfl, _, rfl, _, _, rfl, rfl, _, rfl, ?_⟩
    unfold tNoPart
    refine slA_any (Same.tup scd hFb) fun p4 He se e4 => ?_
    refine catA_any (Same.tup se e3) e4 (by rw [List.length_append]; show _ + 1 + _ ≤ 1000; omega) fun NR Hf sf hNR => ?_
    rw [near_cut hk34] at hNR
    have sE := scd.trans (se.trans sf)
    have mf := mb.same sE
    have bE : But m H Hf := bD.trans (But.of sE)
    have hpf := Same.tup sE hpb
    have hFf := Same.tup sE hFb
    have hTf := Same.tup sE hTb
    have hnsm : (nearOf f k y).Sm := near_sm lF y0 y1
    generalize nearOf f k y = nr at hNR hnsm
    clear sE sf se scd sd sc gc nu e3 e4 len1 len2 bD hpb hFb hTb e2b mb y0 y1
    first | refine sigN [some (.ref m), some (.ref p), some (.ref F), some (.int d), some (.int c.c4), some (.int c.c6), some (.ref tw), some (.int k), some (.ref NR), none, none, none, none, none] (by rfl) ?_ | refine sig [some (.ref m), some (.ref p), some (.ref F), some (.int d), some (.int c.c4), some (.int c.c6), some (.ref tw), some (.int k), some (.ref NR), none, none, none, none, none] (by rfl) ?_
    refine ⟨fun σ H5 => But m H H5 ∧ SqT K H5 p c.tup ∧ SqT K H5 F f.tup ∧ SqT K H5 NR nr.tup ∧ ∃ (lo : Addr) (xs : List V), σ = [some (.ref m), some (.ref p), some (.ref F), some (.int d), some (.int c.c4), some (.int c.c6), some (.ref tw), some (.int k), some (.ref NR), some (.ref lo), none, none, none, none] ∧ H5 lo = some (.lst xs) ∧ H lo = none ∧ xs.length = 5 ∧ ∀ x ∈ xs, Cur K H5 x, ?_, ?_⟩
    · refine ⟨.ref p, rfl, .ref F, rfl, _, rfl, .ref F, rfl, m, cl, F, f, n + 8 + 4 + 1 + 1 + 1, rfl, hFf, lF, by omega, mf, fun Hg G g bg mg' hG lG fG => ?_⟩
      refine ⟨_, rfl, m, cl, n + 8 + 4 + 1 + 1 + 1 + 4, rfl, by omega, mg', fun Hh v bh mh hv => ?_⟩
      have nf := fF.nz nc
      have hpg := bh.seqT mg' (bg.seqT mf hpf)
      have hFg := bh.seqT mg' (bg.seqT mf hFf)
      have hNg := bh.seqT mg' (bg.seqT mf hNR)
      have hTg := bh.seqT mg' (bg.seqT mf hTf)
      have hGg := bh.seqT mg' hG
      have bF : But m H Hh := bE.trans (bg.trans bh)
      have h4 : ∀ x ∈ [V.ref p, .ref F, .ref G, v], Cur K Hh x := by
        intro x hx
        simp only [List.mem_cons, List.not_mem_nil, or_false] at hx
        rcases hx with rfl | rfl | rfl | rfl
        · exact ⟨p, c, rfl, hpg, hc, nc⟩
        · exact ⟨F, f, rfl, hFg, lF, nf⟩
        · exact ⟨G, g, rfl, hGg, lG, fG.nz nf⟩
        · exact hv
      refine ⟨(by show 4 ≤ sizeLine; decide), fun l nl => ?_⟩
      have si := Same.new (H := Hh) (p := l) (o := .lst [.ref p, .ref F, .ref G, v]) nl
      have gi : upd Hh l (.lst [.ref p, .ref F, .ref G, v]) l = some (.lst [.ref p, .ref F, .ref G, v]) := upd_same
      generalize upd Hh l (.lst [.ref p, .ref F, .ref G, v]) = Hi at si gi ⊢
      refine ⟨.ref tw, rfl, tw, twOf c d, rfl, Same.tup si hTg, fun Hj sj => ⟨_, rfl, ?_⟩⟩
      have sij := si.trans sj
      have mj := mh.same sij
      have fin : ∀ (y : V) (l3 : Addr) (n3 : Hj l3 = none), Cur K Hj y → ∀ (lo : Addr), (upd Hj l3 (.lst [y])) lo = none → (But m H (upd (upd Hj l3 (.lst [y])) lo (.lst ([.ref p, .ref F, .ref G, v] ++ [y]))) ∧ SqT K (upd (upd Hj l3 (.lst [y])) lo (.lst ([.ref p, .ref F, .ref G, v] ++ [y]))) p c.tup ∧ SqT K (upd (upd Hj l3 (.lst [y])) lo (.lst ([.ref p, .ref F, .ref G, v] ++ [y]))) F f.tup ∧ SqT K (upd (upd Hj l3 (.lst [y])) lo (.lst ([.ref p, .ref F, .ref G, v] ++ [y]))) NR nr.tup ∧ H lo = none ∧ ∀ x ∈ [V.ref p, .ref F, .ref G, v] ++ [y], Cur K (upd (upd Hj l3 (.lst [y])) lo (.lst ([.ref p, .ref F, .ref G, v] ++ [y]))) x) := by
        intro y l3 n3 hy lo nlo
        have s1 := Same.new (o := .lst [y]) n3
        have s2 := Same.new (o := .lst ([.ref p, .ref F, .ref G, v] ++ [y])) nlo
        have sAll := sij.trans (s1.trans s2)
        have bG : But m H (upd Hj l3 (.lst [y])) := bF.trans (But.of (sij.trans s1))
        refine ⟨bF.trans (But.of sAll), Same.tup sAll hpg, Same.tup sAll hFg, Same.tup sAll hNg, bG.free (mj.same s1) nlo, fun x hx => ?_⟩
        rcases List.mem_append.mp hx with hx | hx
        · exact (h4 x hx).same sAll
        · rw [List.mem_singleton.mp hx]
          exact hy.same (s1.trans s2)
      by_cases hl : Let (twOf c d)
      · refine iteY (decide_eq_true hl) ?_
        refine ⟨_, rfl, (by show 1 ≤ sizeLine; decide), fun l3 nl3 => ?_⟩
        refine ⟨l, l3, _, _, rfl, rfl, (Same.new nl3) _ _ (sj _ _ gi), upd_same, (by show 4 + 1 ≤ sizeLine; decide), fun lo nlo => ?_⟩
        obtain ⟨k1, k2, k3, k4, k5, k6⟩ := fin (.ref tw) l3 nl3 ⟨tw, _, rfl, Same.tup sij hTg, hl, tw_nz nc d0⟩ lo nlo
        exact ⟨k1, k2, k3, k4, lo, _, rfl, upd_same, k5, rfl, k6⟩
      · refine iteN (by simpa using hl) ?_
        refine ⟨_, rfl, (by show 1 ≤ sizeLine; decide), fun l3 nl3 => ?_⟩
        refine ⟨l, l3, _, _, rfl, rfl, (Same.new nl3) _ _ (sj _ _ gi), upd_same, (by show 4 + 1 ≤ sizeLine; decide), fun lo nlo => ?_⟩
        obtain ⟨k1, k2, k3, k4, k5, k6⟩ := fin (.ref p) l3 nl3 ⟨p, c, rfl, Same.tup sij hpg, hc, nc⟩ lo nlo
        exact ⟨k1, k2, k3, k4, lo, _, rfl, upd_same, k5, rfl, k6⟩
    rintro σ Hg ⟨bF, hpg, hFg, hNg, lo, xs, rfl, hlo, hlo0, len, hxs⟩
    clear hpf hFf hTf hNR bE mf
    refine ⟨fun σ H5 => But m H H5 ∧ SqT K H5 p c.tup ∧ SqT K H5 F f.tup ∧ ∃ (lo : Addr) (xs : List V), σ = [some (.ref m), some (.ref p), some (.ref F), some (.int d), some (.int c.c4), some (.int c.c6), some (.ref tw), some (.int k), some (.ref NR), some (.ref lo), none, none, none, none] ∧ H5 lo = some (.lst xs) ∧ 5 ≤ xs.length ∧ xs.length ≤ 6 ∧ ∀ x ∈ xs, Cur K H5 x, ?_, ?_⟩
    · refine ⟨.ref NR, rfl, NR, nr, rfl, hNg, hnsm, fun t nt => ?_⟩
      have st := Same.new (H := Hg) (p := t) (o := .tup nr.nums) nt
      refine ⟨t, _, 6, .int nr.disc, rfl, rfl, tup_of upd_same, rfl, rfl, _, rfl, ?_⟩
      rw [dec_int]
      by_cases h0 : nr.disc = 0
      · refine iteN (by simp [h0]) ?_
        refine iteN (by decide) ?_
        exact ⟨bF.trans (But.of st), Same.tup st hpg, Same.tup st hFg, lo, xs, rfl, st _ _ hlo, by omega, by omega, fun x hx => (hxs x hx).same st⟩
      · refine iteY (by simp [h0]) ?_
        refine ⟨.ref NR, rfl, NR, nr, rfl, Same.tup st hNg, fun Hh sh => ⟨_, rfl, ?_⟩⟩
        have sth := st.trans sh
        by_cases hl : Let nr
        · refine iteY (decide_eq_true hl) ?_
          have hlh := sth _ _ hlo
          refine ⟨.ref lo, rfl, .inl ⟨rfl, _, lst_of hlh⟩, .ref NR, rfl, lo, _, _, rfl, rfl, hlh, small1000 (by omega), ?_⟩
          refine ⟨but_put (bF.trans (But.of sth)) hlo0, tup_put hlh (Same.tup sth hpg), tup_put hlh (Same.tup sth hFg), lo, _, rfl, upd_same, by rw [List.length_append]; omega, by rw [List.length_append, len]; exact Nat.le_refl 6, fun x hx => ?_⟩
          rcases List.mem_append.mp hx with hx | hx
          · exact ((hxs x hx).same sth).put hlh
          · rw [List.mem_singleton.mp hx]
            exact Cur.put hlh ⟨NR, nr, rfl, Same.tup sth hNg, hl, nz_of h0⟩
        · refine iteN (by simpa using hl) ?_
          exact ⟨bF.trans (But.of sth), Same.tup sth hpg, Same.tup sth hFg, lo, xs, rfl, sth _ _ hlo, by omega, by omega, fun x hx => (hxs x hx).same sth⟩
    clear bF hpg hFg hNg hlo hlo0 len hxs hnsm
    rintro σ Hg ⟨bF, hpg, hFg, lo, xs, rfl, hlo, len5, len6, hxs⟩
    have nf := fF.nz nc
    refine ⟨.ref lo, rfl, lo, rfl, ⟨_, lst_of hlo⟩, fun D1 hD1 => ?_⟩
    refine lc_list (K := K) (a := lo) (xs := xs) (fun i H4 => Same Hg H4 ∧ PrD K H4 D1 i) ⟨Same.new hD1, PrD.new⟩ (fun i H4 _ z => z.1.seq (lst_of hlo)) (fun i x H4 hi z => ?_) (fun Hh z1 => ?_)
    · have hi2 : i < xs.length := (List.getElem?_eq_some_iff.mp hi).1
      refine ⟨rfl, .ref p, rfl, x, rfl, (by show 2 ≤ sizeLine; decide), fun t nt => ?_⟩
      obtain ⟨acc, h1, h2, h3⟩ := PrD.push z.2 nt ⟨p, c, rfl, Same.tup z.1 hpg, hc, nc⟩ ((hxs x (List.mem_of_getElem? hi)).same z.1) (by omega)
      exact ⟨acc, h1, h2, Same.put (Same.put z.1 (z.1.free nt)) hD1, h3⟩
    obtain ⟨s1, L1, g1, e1, p1⟩ := z1
    have hlo1 := s1 _ _ hlo
    have hxs1 : ∀ x ∈ xs, Cur K Hh x := fun x hx => (hxs x hx).same s1
    refine ⟨.ref lo, rfl, lo, rfl, ⟨_, lst_of hlo1⟩, fun D2 hD2 => ?_⟩
    refine lc_list (K := K) (a := lo) (xs := xs) (fun i H4 => Same Hh H4 ∧ PrD K H4 D2 i) ⟨Same.new hD2, PrD.new⟩ (fun i H4 _ z => z.1.seq (lst_of hlo1)) (fun i x H4 hi z => ?_) (fun Hi z2 => ?_)
    · have hi2 : i < xs.length := (List.getElem?_eq_some_iff.mp hi).1
      refine ⟨rfl, x, rfl, .ref p, rfl, (by show 2 ≤ sizeLine; decide), fun t nt => ?_⟩
      obtain ⟨acc, h1, h2, h3⟩ := PrD.push z.2 nt ((hxs1 x (List.mem_of_getElem? hi)).same z.1) ⟨p, c, rfl, Same.tup (s1.trans z.1) hpg, hc, nc⟩ (by omega)
      exact ⟨acc, h1, h2, Same.put (Same.put z.1 (z.1.free nt)) hD2, h3⟩
    obtain ⟨s2, L2, g2, e2, p2⟩ := z2
    refine ⟨D1, D2, _, _, rfl, rfl, s2 _ _ g1, g2, small (by omega), fun l1 nl1 => ?_⟩
    have s3 := Same.new (H := Hi) (p := l1) (o := .lst (L1 ++ L2)) nl1
    have g3 : upd Hi l1 (.lst (L1 ++ L2)) l1 = some (.lst (L1 ++ L2)) := upd_same
    generalize upd Hi l1 (.lst (L1 ++ L2)) = Hj at s3 g3 ⊢
    have sj := s1.trans (s2.trans s3)
    have hx4 : ∃ x4, atI xs 4 = some x4 ∧ x4 ∈ xs := by
      have h4 : 4 < xs.length := by omega
      exact ⟨xs[4], atI_nat (List.getElem?_eq_getElem h4), List.getElem_mem h4⟩
    obtain ⟨x4, hx4, hm4⟩ := hx4
    refine ⟨.ref F, rfl, .ref lo, rfl, lo, _, 4, x4, rfl, rfl, lst_of (sj _ _ hlo), hx4, (by show 2 ≤ sizeLine; decide), fun t nt => ?_⟩
    have s4 := Same.new (H := Hj) (p := t) (o := .tup [.ref F, x4]) nt
    have g4 : upd Hj t (.tup [.ref F, x4]) t = some (.tup [.ref F, x4]) := upd_same
    generalize upd Hj t (.tup [.ref F, x4]) = Hk at s4 g4 ⊢
    refine ⟨(by show 1 ≤ sizeLine; decide), fun l2 nl2 => ?_⟩
    have s5 := Same.new (H := Hk) (p := l2) (o := .lst [.ref t]) nl2
    have g5 : upd Hk l2 (.lst [.ref t]) l2 = some (.lst [.ref t]) := upd_same
    generalize upd Hk l2 (.lst [.ref t]) = Hl at s5 g5 ⊢
    refine ⟨l1, l2, _, _, rfl, rfl, s5 _ _ (s4 _ _ g3), g5, small (by rw [List.length_append]; show _ + 1 ≤ 1000; omega), fun l3 nl3 => ?_⟩
    have s6 := Same.new (H := Hl) (p := l3) (o := .lst (L1 ++ L2 ++ [.ref t])) nl3
    have g6 : upd Hl l3 (.lst (L1 ++ L2 ++ [.ref t])) l3 = some (.lst (L1 ++ L2 ++ [.ref t])) := upd_same
    generalize upd Hl l3 (.lst (L1 ++ L2 ++ [.ref t])) = Hm at s6 g6 ⊢
    have s36 := s3.trans (s4.trans (s5.trans s6))
    have hall : ∀ v ∈ L1 ++ L2 ++ [V.ref t], Pr K Hm v := by
      intro v hv
      rcases List.mem_append.mp hv with hv | hv
      · rcases List.mem_append.mp hv with hv | hv
        · exact (p1 v hv).same (s2.trans s36)
        · exact (p2 v hv).same s36
      · rw [List.mem_singleton.mp hv]
        exact ⟨t, _, _, rfl, s6 _ _ (s5 _ _ g4), ⟨F, f, rfl, Same.tup (s1.trans (s2.trans s36)) hFg, lF, nf⟩, (hxs x4 hm4).same (s1.trans (s2.trans s36))⟩
    have sM := s1.trans (s2.trans s36)
    have bM : But m H Hm := bF.trans (But.of sM)
    have hpM := Same.tup sM hpg
    have hFM := Same.tup sM hFg
    have hlen : (L1 ++ L2 ++ [V.ref t]).length ≤ 13 := by
      rw [List.length_append, List.length_append]
      show _ + _ + 1 ≤ 13
      omega
    generalize L1 ++ L2 ++ [V.ref t] = LL at g6 hall hlen
    clear s1 s2 s3 s4 s5 s6 s36 sj sM g1 g2 g3 g4 g5 p1 p2 e1 e2 hD1 hD2 hlo hlo1 hxs hxs1 hx4 hm4 bF hpg hFg nt nl1 nl2 nl3
    refine ⟨l3, rfl, ⟨_, lst_of g6⟩, for_list (K := K) (a := l3) (xs := LL) (fun i σ H2 => Same Hm H2 ∧ ∃ v1 v2 v3 v4 : Option V, σ = [some (.ref m), some (.ref p), some (.ref F), some (.int d), some (.int c.c4), some (.int c.c6), some (.ref tw), some (.int k), some (.ref NR), some (.ref lo), v1, v2, v3, v4]) ⟨Same.refl _, none, none, none, none, rfl⟩ (fun i σ H2 _ z => lst_of (z.1 _ _ g6)) ?_ ?_⟩
    · rintro i x σ Hn hi ⟨sn, v1, v2, v3, v4, rfl⟩
      obtain ⟨t, x1, x2, rfl, gt, ⟨po, co, rfl, ho, lo1, no⟩, ⟨pt, ct, rfl, ht, lt1, nt⟩⟩ := (hall x (List.mem_of_getElem? hi)).same sn
      refine ⟨t, _, rfl, tup_of gt, rfl, _, _, rfl, _, _, rfl, rfl, ?_⟩
      refine ⟨.ref po, rfl, .ref pt, rfl, po, pt, co, ct, rfl, ho, ht, lo1.sm, lt1.sm, no, nt, fun u Ho e hu ub so de => ?_, fun Ho e nou so de => ?_⟩
      · have ho2 := Same.tup so ho
        have ht2 := Same.tup so ht
        refine ⟨.ref po, rfl, .ref pt, rfl, po, pt, co, ct, rfl, ho2, ht2, lo1.sm, lt1.sm, no, nt, fun u2 Hp2 e2 hu2 ub2 sp2 de2 => ?_, fun _ _ nou _ _ => absurd hu (nou u)⟩
        have eu : u2 = u := U.uniq nt hu2 hu
        subst eu
        refine ⟨.ref po, rfl, .ref pt, rfl, po, pt, co, ct, rfl, Same.tup sp2 ho2, Same.tup sp2 ht2, lo1.sm, lt1.sm, no, nt, fun u3 Hq hu3 sq => ?_, fun _ nou _ => absurd hu (nou u2)⟩
        refine ⟨(by show 2 ≤ sizeLine; decide), fun l4 nl4 => ?_⟩
        have sr := Same.new (H := Hq) (p := l4) (o := .lst [.ref e2, .bl true]) nl4
        have gr : upd Hq l4 (.lst [.ref e2, .bl true]) l4 = some (.lst [.ref e2, .bl true]) := upd_same
        generalize upd Hq l4 (.lst [.ref e2, .bl true]) = Hr at sr gr ⊢
        have okb := ok_both lo1.sm lt1.sm ub
        refine ⟨.ref l4, .list [dboth co ct u2, .bool true], rfl, .lst (lst_of gr) (.cons (dp_same (sq.trans sr) _ _ de2) (.cons (.bl _) .nil)), okb, both_depth _ _ _, both_wt _ _ _, ?_⟩
        have sAll := sp2.trans (sq.trans sr)
        refine ⟨.ref e, rfl, .ref e, rfl, (by show 0 ≤ sizeLine; decide), fun z nz => ?_⟩
        have ss := Same.new (H := Hr) (p := z) (o := .tup []) nz
        have gs : upd Hr z (.tup []) z = some (.tup []) := upd_same
        generalize upd Hr z (.tup []) = Hs at ss gs ⊢
        have dE := dp_same (sAll.trans ss) _ _ de
        refine ⟨dboth co ct u2, .tuple [], dE, .tup (tup_of gs) .nil, both_shaped _ _ _, rfl, ?_⟩
        rw [both_nil]
        refine ⟨(by show 2 ≤ sizeLine; decide), fun l5 nl5 => ?_⟩
        have st := Same.new (H := Hs) (p := l5) (o := .lst [.ref e, .bl (!false)]) nl5
        have gt5 : upd Hs l5 (.lst [.ref e, .bl (!false)]) l5 = some (.lst [.ref e, .bl (!false)]) := upd_same
        generalize upd Hs l5 (.lst [.ref e, .bl (!false)]) = Ht at st gt5 ⊢
        have dl : DpAll K Ht [.ref e, .bl (!false)] [dboth co ct u2, .bool true] := .cons (dp_same st _ _ dE) (.cons (.bl true) .nil)
        refine ⟨.ref l5, .list [dboth co ct u2, .bool true], rfl, .lst (lst_of gt5) dl, okb, both_depth _ _ _, both_wt _ _ _, rfl, _, rfl, ?_⟩
        generalize (PyData.list [dboth co ct u2, PyData.bool true]).shown = zz
        refine iteNS rfl ?_
        exact ⟨sn.trans (so.trans (sAll.trans (ss.trans st))), _, _, _, _, rfl⟩
      · have ho2 := Same.tup so ho
        have ht2 := Same.tup so ht
        refine ⟨.ref po, rfl, .ref pt, rfl, po, pt, co, ct, rfl, ho2, ht2, lo1.sm, lt1.sm, no, nt, fun u _ _ hu _ _ _ => absurd hu (nou u), fun Hp2 e2 _ sp2 de2 => ?_⟩
        refine ⟨.ref po, rfl, .ref pt, rfl, po, pt, co, ct, rfl, Same.tup sp2 ho2, Same.tup sp2 ht2, lo1.sm, lt1.sm, no, nt, fun u _ hu _ => absurd hu (nou u), fun Hq _ sq => ?_⟩
        refine ⟨(by show 2 ≤ sizeLine; decide), fun l4 nl4 => ?_⟩
        have sr := Same.new (H := Hq) (p := l4) (o := .lst [.ref e2, .bl false]) nl4
        have gr : upd Hq l4 (.lst [.ref e2, .bl false]) l4 = some (.lst [.ref e2, .bl false]) := upd_same
        generalize upd Hq l4 (.lst [.ref e2, .bl false]) = Hr at sr gr ⊢
        refine ⟨.ref l4, .list [.tuple [], .bool false], rfl, .lst (lst_of gr) (.cons (dp_same (sq.trans sr) _ _ de2) (.cons (.bl _) .nil)), by decide, by decide, by decide, ?_⟩
        have sAll := sp2.trans (sq.trans sr)
        refine ⟨.ref e, rfl, .ref e, rfl, (by show 0 ≤ sizeLine; decide), fun z nz => ?_⟩
        have ss := Same.new (H := Hr) (p := z) (o := .tup []) nz
        have gs : upd Hr z (.tup []) z = some (.tup []) := upd_same
        generalize upd Hr z (.tup []) = Hs at ss gs ⊢
        have dE := dp_same (sAll.trans ss) _ _ de
        refine ⟨.tuple [], .tuple [], dE, .tup (tup_of gs) .nil, rfl, rfl, ?_⟩
        rw [show PyData.eqv (.tuple []) (.tuple []) = true from rfl]
        refine ⟨(by show 2 ≤ sizeLine; decide), fun l5 nl5 => ?_⟩
        have st := Same.new (H := Hs) (p := l5) (o := .lst [.ref e, .bl (!true)]) nl5
        have gt5 : upd Hs l5 (.lst [.ref e, .bl (!true)]) l5 = some (.lst [.ref e, .bl (!true)]) := upd_same
        generalize upd Hs l5 (.lst [.ref e, .bl (!true)]) = Ht at st gt5 ⊢
        have dl : DpAll K Ht [.ref e, .bl (!true)] [.tuple [], .bool false] := .cons (dp_same st _ _ dE) (.cons (.bl false) .nil)
        refine ⟨.ref l5, .list [.tuple [], .bool false], rfl, .lst (lst_of gt5) dl, by decide, by decide, by decide, rfl, _, rfl, ?_⟩
        generalize (PyData.list [.tuple [], PyData.bool false]).shown = zz
        refine iteNS rfl ?_
        exact ⟨sn.trans (so.trans (sAll.trans (ss.trans st))), _, _, _, _, rfl⟩
    · rintro σ Hn ⟨sn, v1, v2, v3, v4, rfl⟩
      obtain ⟨u0, hu0⟩ := fF.u
      refine ⟨.ref p, rfl, .ref F, rfl, p, F, c, f, rfl, Same.tup sn hpM, Same.tup sn hFM, hc.sm, lF.sm, nc, nf, fun u Ho e hu ub so de => ?_, fun _ _ nou _ _ => absurd hu0 (nou u0)⟩
      refine ⟨(by show 0 ≤ sizeLine; decide), fun z nz => ?_⟩
      have ss := Same.new (H := Ho) (p := z) (o := .tup []) nz
      have gs : upd Ho z (.tup []) z = some (.tup []) := upd_same
      generalize upd Ho z (.tup []) = Hs at ss gs ⊢
      refine ⟨dboth c f u, .tuple [], dp_same ss _ _ de, .tup (tup_of gs) .nil, both_shaped _ _ _, rfl, ?_⟩
      rw [both_nil]
      exact q _ (bM.trans (But.of (sn.trans (so.trans ss))))
/-! ### the law -/
def sp_law (K : PySem.W.Frag) : Sp := fun vs H Q _ => ∃ (a : Addr) (ns : List Int), vs = [.ref a] ∧ SqL K H a (ns.map V.int) ∧ ns.length ≤ 63 ∧ ∀ H', Q (.bl true) H'
abbrev s_law : Stmt := topS 46
theorem sc_law : FnScope ["script", "k"] ["script"] (defScope s_law) := ⟨rfl, rfl, rfl, by decide +kernel, rfl, by decide +kernel, by decide +kernel⟩
theorem k_law {fl : Addr} {fdl : FuncData} (T : Tx K mg) (Fl : Fun K "law" "law" s_law fl fdl) (c_law_right : Kg P w K mg base 7 "_law_right" (sp_law_right K)) (c_law_begun : Kl P w K mg base 1 "_law_begun" (sp_law_begun K)) : FnG P w K mg base 8 fl fdl ["script"] (sp_law K) := by
  have nd := sc_law.nd
  refine FnG.by_body Fl sc_law (fun vs H Q E h => ?_) (fun cdv A outer s H vs Q E hgd hr h => ?_)
  · obtain ⟨_, _, rfl, _⟩ := h
    rfl
  · obtain ⟨a, ns, rfl, hx, hl, q⟩ := h
    have hu1 := hu_of hr
    refine ⟨_, (pss_cons (ps_for PassesOwn.never rfl (pi_range1 (by rfl) T.range (pa_cons (pe_op op_add pe_int (pe_callB (call_min2 rfl) (by rfl) T.min (by decide +kernel) (pa_cons (pe_callB call_len_seq (by rfl) T.len (by decide +kernel) (pa_cons (pv 0) pa_nil)) (pa_cons pe_int pa_nil)))) pa_nil)) (pg_name (i := 1) nd rfl (by first | exact Or.inl rfl | exact Or.inr rfl)) (pss_one (ps_if (pt_not (pt_val (pe_g c_law_right hgd hr (by decide) (by rfl) (pa_cons (pe_k c_law_begun  hr (by decide) (by rfl) (pa_cons (pv 0) (pa_cons (pv 1) pa_nil))) pa_nil)))) (pss_one (ps_ret pe_bl)) pss_nil)))
      (pss_one (ps_ret pe_bl))), ?_⟩
    obtain ⟨j, hj, j0, j1⟩ : ∃ j : Int, (2 : Int) + (if (2 : Int) < ((ns.map V.int).length : Int) then 2 else ((ns.map V.int).length : Int)) = j ∧ 0 ≤ j ∧ j ≤ 4 := ⟨_, rfl, by split <;> omega, by split <;> omega⟩
    refine ⟨.ref a, rfl, a, _, rfl, .inl hx, _, _, rfl, _, _, rfl, rfl, j, ?_, by omega, by omega, ?_⟩
    · rw [← hj]
    refine for_range (lo := 0) (n := j.toNat) (fun i σ H2 => Same H H2 ∧ ∃ v1 : Option V, σ = [some (.ref a), v1]) ⟨Same.refl _, none, rfl⟩ ?_ ?_
    · rintro i σ H2 hi ⟨s2, v1, rfl⟩
      refine ⟨.ref a, rfl, _, rfl, a, _, ns, rfl, s2.seq hx, hl, by omega, by omega, fun H3 m cl s3 nm ncl hM => ?_⟩
      refine ⟨m, cl, 0, rfl, by decide, hM, fun H4 b4 => ⟨_, rfl, ?_⟩⟩
      refine iteF ?_
      exact ⟨s2.trans (But.same s3 b4 nm), _, rfl⟩
    · rintro σ H2 ⟨s2, v1, rfl⟩
      exact q H2
end
end K07
set_option Elab.async false
set_option linter.all false
set_option maxRecDepth 100000
set_option maxHeartbeats 4000000
namespace K07
open PySem PySem.Spec PyProof.Rows L2 Gd
theorem all_mk {P : Program} {w : World} {K : PySem.W.Frag} {h : Heap} {mg : Str → Option Value} {fa : Addr} (X : K.In h) (G : h.Ns mainGlobals mg) (hfa : mg "law" = some (.ref fa))
    {f2 : Addr} {od2 an2 : Option Addr} {sl2 : Array (Option Value)} {oc2 kV2 dc2 pm2 cd2 ct2 : Value}
    {f3 : Addr} {od3 an3 : Option Addr} {sl3 : Array (Option Value)} {oc3 kV3 dc3 pm3 cd3 ct3 : Value}
    {f4 : Addr} {od4 an4 : Option Addr} {sl4 : Array (Option Value)} {oc4 kV4 dc4 pm4 cd4 ct4 : Value}
    {f5 : Addr} {od5 an5 : Option Addr} {sl5 : Array (Option Value)} {oc5 kV5 dc5 pm5 cd5 ct5 : Value}
    {f7 : Addr} {od7 an7 : Option Addr} {sl7 : Array (Option Value)} {oc7 kV7 dc7 pm7 cd7 ct7 : Value}
    {f8 : Addr} {od8 an8 : Option Addr} {sl8 : Array (Option Value)} {oc8 kV8 dc8 pm8 cd8 ct8 : Value}
    {f10 : Addr} {od10 an10 : Option Addr} {sl10 : Array (Option Value)} {oc10 kV10 dc10 pm10 cd10 ct10 : Value}
    {f11 : Addr} {od11 an11 : Option Addr} {sl11 : Array (Option Value)} {oc11 kV11 dc11 pm11 cd11 ct11 : Value}
    {f12 : Addr} {od12 an12 : Option Addr} {sl12 : Array (Option Value)} {oc12 kV12 dc12 pm12 cd12 ct12 : Value}
    {f13 : Addr} {od13 an13 : Option Addr} {sl13 : Array (Option Value)} {oc13 kV13 dc13 pm13 cd13 ct13 : Value}
    {f14 : Addr} {od14 an14 : Option Addr} {sl14 : Array (Option Value)} {oc14 kV14 dc14 pm14 cd14 ct14 : Value}
    {f15 : Addr} {od15 an15 : Option Addr} {sl15 : Array (Option Value)} {oc15 kV15 dc15 pm15 cd15 ct15 : Value}
    {f16 : Addr} {od16 an16 : Option Addr} {sl16 : Array (Option Value)} {oc16 kV16 dc16 pm16 cd16 ct16 : Value}
    {f17 : Addr} {od17 an17 : Option Addr} {sl17 : Array (Option Value)} {oc17 kV17 dc17 pm17 cd17 ct17 : Value}
    {f19 : Addr} {od19 an19 : Option Addr} {sl19 : Array (Option Value)} {oc19 kV19 dc19 pm19 cd19 ct19 : Value}
    {f20 : Addr} {od20 an20 : Option Addr} {sl20 : Array (Option Value)} {oc20 kV20 dc20 pm20 cd20 ct20 : Value}
    {f21 : Addr} {od21 an21 : Option Addr} {sl21 : Array (Option Value)} {oc21 kV21 dc21 pm21 cd21 ct21 : Value}
    {f22 : Addr} {od22 an22 : Option Addr} {sl22 : Array (Option Value)} {oc22 kV22 dc22 pm22 cd22 ct22 : Value}
    {f24 : Addr} {od24 an24 : Option Addr} {sl24 : Array (Option Value)} {oc24 kV24 dc24 pm24 cd24 ct24 : Value}
    {f25 : Addr} {od25 an25 : Option Addr} {sl25 : Array (Option Value)} {oc25 kV25 dc25 pm25 cd25 ct25 : Value}
    {f26 : Addr} {od26 an26 : Option Addr} {sl26 : Array (Option Value)} {oc26 kV26 dc26 pm26 cd26 ct26 : Value}
    {f27 : Addr} {od27 an27 : Option Addr} {sl27 : Array (Option Value)} {oc27 kV27 dc27 pm27 cd27 ct27 : Value}
    {f28 : Addr} {od28 an28 : Option Addr} {sl28 : Array (Option Value)} {oc28 kV28 dc28 pm28 cd28 ct28 : Value}
    {f29 : Addr} {od29 an29 : Option Addr} {sl29 : Array (Option Value)} {oc29 kV29 dc29 pm29 cd29 ct29 : Value}
    {f30 : Addr} {od30 an30 : Option Addr} {sl30 : Array (Option Value)} {oc30 kV30 dc30 pm30 cd30 ct30 : Value}
    {f31 : Addr} {od31 an31 : Option Addr} {sl31 : Array (Option Value)} {oc31 kV31 dc31 pm31 cd31 ct31 : Value}
    {f32 : Addr} {od32 an32 : Option Addr} {sl32 : Array (Option Value)} {oc32 kV32 dc32 pm32 cd32 ct32 : Value}
    {f34 : Addr} {od34 an34 : Option Addr} {sl34 : Array (Option Value)} {oc34 kV34 dc34 pm34 cd34 ct34 : Value}
    {f35 : Addr} {od35 an35 : Option Addr} {sl35 : Array (Option Value)} {oc35 kV35 dc35 pm35 cd35 ct35 : Value}
    {f36 : Addr} {od36 an36 : Option Addr} {sl36 : Array (Option Value)} {oc36 kV36 dc36 pm36 cd36 ct36 : Value}
    {f37 : Addr} {od37 an37 : Option Addr} {sl37 : Array (Option Value)} {oc37 kV37 dc37 pm37 cd37 ct37 : Value}
    {f38 : Addr} {od38 an38 : Option Addr} {sl38 : Array (Option Value)} {oc38 kV38 dc38 pm38 cd38 ct38 : Value}
    {f39 : Addr} {od39 an39 : Option Addr} {sl39 : Array (Option Value)} {oc39 kV39 dc39 pm39 cd39 ct39 : Value}
    {f40 : Addr} {od40 an40 : Option Addr} {sl40 : Array (Option Value)} {oc40 kV40 dc40 pm40 cd40 ct40 : Value}
    {f41 : Addr} {od41 an41 : Option Addr} {sl41 : Array (Option Value)} {oc41 kV41 dc41 pm41 cd41 ct41 : Value}
    {f42 : Addr} {od42 an42 : Option Addr} {sl42 : Array (Option Value)} {oc42 kV42 dc42 pm42 cd42 ct42 : Value}
    {f43 : Addr} {od43 an43 : Option Addr} {sl43 : Array (Option Value)} {oc43 kV43 dc43 pm43 cd43 ct43 : Value}
    {f44 : Addr} {od44 an44 : Option Addr} {sl44 : Array (Option Value)} {oc44 kV44 dc44 pm44 cd44 ct44 : Value}
    {f45 : Addr} {od45 an45 : Option Addr} {sl45 : Array (Option Value)} {oc45 kV45 dc45 pm45 cd45 ct45 : Value}
    {f46 : Addr} {od46 an46 : Option Addr} {sl46 : Array (Option Value)} {oc46 kV46 dc46 pm46 cd46 ct46 : Value}
    (a2 : PySem.W.nsIn K mainGlobals "power" = some (some (.ref f2))) (l2 : K.lookup f2 = some ⟨oc2, od2, .func (PySem.W.fnOf "power" "power" (defArgs s_power) (defBody s_power) (defScope s_power) .none kV2 dc2 pm2 an2 cd2 ct2), sl2⟩) (c2 : PySem.W.codeIn K cd2 "power" = true) (k2 : PySem.W.keepIn K (.ref f2) = true)
    (a3 : PySem.W.nsIn K mainGlobals "lowest" = some (some (.ref f3))) (l3 : K.lookup f3 = some ⟨oc3, od3, .func (PySem.W.fnOf "lowest" "lowest" (defArgs s_lowest) (defBody s_lowest) (defScope s_lowest) .none kV3 dc3 pm3 an3 cd3 ct3), sl3⟩) (c3 : PySem.W.codeIn K cd3 "lowest" = true) (k3 : PySem.W.keepIn K (.ref f3) = true)
    (a4 : PySem.W.nsIn K mainGlobals "root_of" = some (some (.ref f4))) (l4 : K.lookup f4 = some ⟨oc4, od4, .func (PySem.W.fnOf "root_of" "root_of" (defArgs s_root_of) (defBody s_root_of) (defScope s_root_of) .none kV4 dc4 pm4 an4 cd4 ct4), sl4⟩) (c4 : PySem.W.codeIn K cd4 "root_of" = true) (k4 : PySem.W.keepIn K (.ref f4) = true)
    (a5 : PySem.W.nsIn K mainGlobals "exact_root" = some (some (.ref f5))) (l5 : K.lookup f5 = some ⟨oc5, od5, .func (PySem.W.fnOf "exact_root" "exact_root" (defArgs s_exact_root) (defBody s_exact_root) (defScope s_exact_root) .none kV5 dc5 pm5 an5 cd5 ct5), sl5⟩) (c5 : PySem.W.codeIn K cd5 "exact_root" = true) (k5 : PySem.W.keepIn K (.ref f5) = true)
    (a7 : PySem.W.nsIn K mainGlobals "five" = some (some (.ref f7))) (l7 : K.lookup f7 = some ⟨oc7, od7, .func (PySem.W.fnOf "five" "five" (defArgs s_five) (defBody s_five) (defScope s_five) .none kV7 dc7 pm7 an7 cd7 ct7), sl7⟩) (c7 : PySem.W.codeIn K cd7 "five" = true) (k7 : PySem.W.keepIn K (.ref f7) = true)
    (a8 : PySem.W.nsIn K mainGlobals "numbers_of" = some (some (.ref f8))) (l8 : K.lookup f8 = some ⟨oc8, od8, .func (PySem.W.fnOf "numbers_of" "numbers_of" (defArgs s_numbers_of) (defBody s_numbers_of) (defScope s_numbers_of) .none kV8 dc8 pm8 an8 cd8 ct8), sl8⟩) (c8 : PySem.W.codeIn K cd8 "numbers_of" = true) (k8 : PySem.W.keepIn K (.ref f8) = true)
    (a10 : PySem.W.nsIn K mainGlobals "plus" = some (some (.ref f10))) (l10 : K.lookup f10 = some ⟨oc10, od10, .func (PySem.W.fnOf "plus" "plus" (defArgs s_plus) (defBody s_plus) (defScope s_plus) .none kV10 dc10 pm10 an10 cd10 ct10), sl10⟩) (c10 : PySem.W.codeIn K cd10 "plus" = true) (k10 : PySem.W.keepIn K (.ref f10) = true)
    (a11 : PySem.W.nsIn K mainGlobals "less" = some (some (.ref f11))) (l11 : K.lookup f11 = some ⟨oc11, od11, .func (PySem.W.fnOf "less" "less" (defArgs s_less) (defBody s_less) (defScope s_less) .none kV11 dc11 pm11 an11 cd11 ct11), sl11⟩) (c11 : PySem.W.codeIn K cd11 "less" = true) (k11 : PySem.W.keepIn K (.ref f11) = true)
    (a12 : PySem.W.nsIn K mainGlobals "times" = some (some (.ref f12))) (l12 : K.lookup f12 = some ⟨oc12, od12, .func (PySem.W.fnOf "times" "times" (defArgs s_times) (defBody s_times) (defScope s_times) .none kV12 dc12 pm12 an12 cd12 ct12), sl12⟩) (c12 : PySem.W.codeIn K cd12 "times" = true) (k12 : PySem.W.keepIn K (.ref f12) = true)
    (a13 : PySem.W.nsIn K mainGlobals "over" = some (some (.ref f13))) (l13 : K.lookup f13 = some ⟨oc13, od13, .func (PySem.W.fnOf "over" "over" (defArgs s_over) (defBody s_over) (defScope s_over) .none kV13 dc13 pm13 an13 cd13 ct13), sl13⟩) (c13 : PySem.W.codeIn K cd13 "over" = true) (k13 : PySem.W.keepIn K (.ref f13) = true)
    (a14 : PySem.W.nsIn K mainGlobals "whole_fraction" = some (some (.ref f14))) (l14 : K.lookup f14 = some ⟨oc14, od14, .func (PySem.W.fnOf "whole_fraction" "whole_fraction" (defArgs s_whole_fraction) (defBody s_whole_fraction) (defScope s_whole_fraction) .none kV14 dc14 pm14 an14 cd14 ct14), sl14⟩) (c14 : PySem.W.codeIn K cd14 "whole_fraction" = true) (k14 : PySem.W.keepIn K (.ref f14) = true)
    (a15 : PySem.W.nsIn K mainGlobals "total" = some (some (.ref f15))) (l15 : K.lookup f15 = some ⟨oc15, od15, .func (PySem.W.fnOf "total" "total" (defArgs s_total) (defBody s_total) (defScope s_total) .none kV15 dc15 pm15 an15 cd15 ct15), sl15⟩) (c15 : PySem.W.codeIn K cd15 "total" = true) (k15 : PySem.W.keepIn K (.ref f15) = true)
    (a16 : PySem.W.nsIn K mainGlobals "product" = some (some (.ref f16))) (l16 : K.lookup f16 = some ⟨oc16, od16, .func (PySem.W.fnOf "product" "product" (defArgs s_product) (defBody s_product) (defScope s_product) .none kV16 dc16 pm16 an16 cd16 ct16), sl16⟩) (c16 : PySem.W.codeIn K cd16 "product" = true) (k16 : PySem.W.keepIn K (.ref f16) = true)
    (a17 : PySem.W.nsIn K mainGlobals "root_of_fraction" = some (some (.ref f17))) (l17 : K.lookup f17 = some ⟨oc17, od17, .func (PySem.W.fnOf "root_of_fraction" "root_of_fraction" (defArgs s_root_of_fraction) (defBody s_root_of_fraction) (defScope s_root_of_fraction) .none kV17 dc17 pm17 an17 cd17 ct17), sl17⟩) (c17 : PySem.W.codeIn K cd17 "root_of_fraction" = true) (k17 : PySem.W.keepIn K (.ref f17) = true)
    (a19 : PySem.W.nsIn K mainGlobals "scale_between" = some (some (.ref f19))) (l19 : K.lookup f19 = some ⟨oc19, od19, .func (PySem.W.fnOf "scale_between" "scale_between" (defArgs s_scale_between) (defBody s_scale_between) (defScope s_scale_between) .none kV19 dc19 pm19 an19 cd19 ct19), sl19⟩) (c19 : PySem.W.codeIn K cd19 "scale_between" = true) (k19 : PySem.W.keepIn K (.ref f19) = true)
    (a20 : PySem.W.nsIn K mainGlobals "change_with" = some (some (.ref f20))) (l20 : K.lookup f20 = some ⟨oc20, od20, .func (PySem.W.fnOf "change_with" "change_with" (defArgs s_change_with) (defBody s_change_with) (defScope s_change_with) .none kV20 dc20 pm20 an20 cd20 ct20), sl20⟩) (c20 : PySem.W.codeIn K cd20 "change_with" = true) (k20 : PySem.W.keepIn K (.ref f20) = true)
    (a21 : PySem.W.nsIn K mainGlobals "changes_between" = some (some (.ref f21))) (l21 : K.lookup f21 = some ⟨oc21, od21, .func (PySem.W.fnOf "changes_between" "changes_between" (defArgs s_changes_between) (defBody s_changes_between) (defScope s_changes_between) .none kV21 dc21 pm21 an21 cd21 ct21), sl21⟩) (c21 : PySem.W.codeIn K cd21 "changes_between" = true) (k21 : PySem.W.keepIn K (.ref f21) = true)
    (a22 : PySem.W.nsIn K mainGlobals "are_alike" = some (some (.ref f22))) (l22 : K.lookup f22 = some ⟨oc22, od22, .func (PySem.W.fnOf "are_alike" "are_alike" (defArgs s_are_alike) (defBody s_are_alike) (defScope s_are_alike) .none kV22 dc22 pm22 an22 cd22 ct22), sl22⟩) (c22 : PySem.W.codeIn K cd22 "are_alike" = true) (k22 : PySem.W.keepIn K (.ref f22) = true)
    (a24 : PySem.W.nsIn K mainGlobals "_law_begun" = some (some (.ref f24))) (l24 : K.lookup f24 = some ⟨oc24, od24, .func (PySem.W.fnOf "_law_begun" "_law_begun" (defArgs s__law_begun) (defBody s__law_begun) (defScope s__law_begun) .none kV24 dc24 pm24 an24 cd24 ct24), sl24⟩) (c24 : PySem.W.codeIn K cd24 "_law_begun" = true) (k24 : PySem.W.keepIn K (.ref f24) = true)
    (a25 : PySem.W.nsIn K mainGlobals "_law_draw" = some (some (.ref f25))) (l25 : K.lookup f25 = some ⟨oc25, od25, .func (PySem.W.fnOf "_law_draw" "_law_draw" (defArgs s__law_draw) (defBody s__law_draw) (defScope s__law_draw) .none kV25 dc25 pm25 an25 cd25 ct25), sl25⟩) (c25 : PySem.W.codeIn K cd25 "_law_draw" = true) (k25 : PySem.W.keepIn K (.ref f25) = true)
    (a26 : PySem.W.nsIn K mainGlobals "_law_of" = some (some (.ref f26))) (l26 : K.lookup f26 = some ⟨oc26, od26, .func (PySem.W.fnOf "_law_of" "_law_of" (defArgs s__law_of) (defBody s__law_of) (defScope s__law_of) .none kV26 dc26 pm26 an26 cd26 ct26), sl26⟩) (c26 : PySem.W.codeIn K cd26 "_law_of" = true) (k26 : PySem.W.keepIn K (.ref f26) = true)
    (a27 : PySem.W.nsIn K mainGlobals "_law_between" = some (some (.ref f27))) (l27 : K.lookup f27 = some ⟨oc27, od27, .func (PySem.W.fnOf "_law_between" "_law_between" (defArgs s__law_between) (defBody s__law_between) (defScope s__law_between) .none kV27 dc27 pm27 an27 cd27 ct27), sl27⟩) (c27 : PySem.W.codeIn K cd27 "_law_between" = true) (k27 : PySem.W.keepIn K (.ref f27) = true)
    (a28 : PySem.W.nsIn K mainGlobals "_law_common" = some (some (.ref f28))) (l28 : K.lookup f28 = some ⟨oc28, od28, .func (PySem.W.fnOf "_law_common" "_law_common" (defArgs s__law_common) (defBody s__law_common) (defScope s__law_common) .none kV28 dc28 pm28 an28 cd28 ct28), sl28⟩) (c28 : PySem.W.codeIn K cd28 "_law_common" = true) (k28 : PySem.W.keepIn K (.ref f28) = true)
    (a29 : PySem.W.nsIn K mainGlobals "_law_cut" = some (some (.ref f29))) (l29 : K.lookup f29 = some ⟨oc29, od29, .func (PySem.W.fnOf "_law_cut" "_law_cut" (defArgs s__law_cut) (defBody s__law_cut) (defScope s__law_cut) .none kV29 dc29 pm29 an29 cd29 ct29), sl29⟩) (c29 : PySem.W.codeIn K cd29 "_law_cut" = true) (k29 : PySem.W.keepIn K (.ref f29) = true)
    (a30 : PySem.W.nsIn K mainGlobals "_law_plus" = some (some (.ref f30))) (l30 : K.lookup f30 = some ⟨oc30, od30, .func (PySem.W.fnOf "_law_plus" "_law_plus" (defArgs s__law_plus) (defBody s__law_plus) (defScope s__law_plus) .none kV30 dc30 pm30 an30 cd30 ct30), sl30⟩) (c30 : PySem.W.codeIn K cd30 "_law_plus" = true) (k30 : PySem.W.keepIn K (.ref f30) = true)
    (a31 : PySem.W.nsIn K mainGlobals "_law_less" = some (some (.ref f31))) (l31 : K.lookup f31 = some ⟨oc31, od31, .func (PySem.W.fnOf "_law_less" "_law_less" (defArgs s__law_less) (defBody s__law_less) (defScope s__law_less) .none kV31 dc31 pm31 an31 cd31 ct31), sl31⟩) (c31 : PySem.W.codeIn K cd31 "_law_less" = true) (k31 : PySem.W.keepIn K (.ref f31) = true)
    (a32 : PySem.W.nsIn K mainGlobals "_law_by" = some (some (.ref f32))) (l32 : K.lookup f32 = some ⟨oc32, od32, .func (PySem.W.fnOf "_law_by" "_law_by" (defArgs s__law_by) (defBody s__law_by) (defScope s__law_by) .none kV32 dc32 pm32 an32 cd32 ct32), sl32⟩) (c32 : PySem.W.codeIn K cd32 "_law_by" = true) (k32 : PySem.W.keepIn K (.ref f32) = true)
    (a34 : PySem.W.nsIn K mainGlobals "_law_numbers" = some (some (.ref f34))) (l34 : K.lookup f34 = some ⟨oc34, od34, .func (PySem.W.fnOf "_law_numbers" "_law_numbers" (defArgs s__law_numbers) (defBody s__law_numbers) (defScope s__law_numbers) .none kV34 dc34 pm34 an34 cd34 ct34), sl34⟩) (c34 : PySem.W.codeIn K cd34 "_law_numbers" = true) (k34 : PySem.W.keepIn K (.ref f34) = true)
    (a35 : PySem.W.nsIn K mainGlobals "_law_root" = some (some (.ref f35))) (l35 : K.lookup f35 = some ⟨oc35, od35, .func (PySem.W.fnOf "_law_root" "_law_root" (defArgs s__law_root) (defBody s__law_root) (defScope s__law_root) .none kV35 dc35 pm35 an35 cd35 ct35), sl35⟩) (c35 : PySem.W.codeIn K cd35 "_law_root" = true) (k35 : PySem.W.keepIn K (.ref f35) = true)
    (a36 : PySem.W.nsIn K mainGlobals "_law_power" = some (some (.ref f36))) (l36 : K.lookup f36 = some ⟨oc36, od36, .func (PySem.W.fnOf "_law_power" "_law_power" (defArgs s__law_power) (defBody s__law_power) (defScope s__law_power) .none kV36 dc36 pm36 an36 cd36 ct36), sl36⟩) (c36 : PySem.W.codeIn K cd36 "_law_power" = true) (k36 : PySem.W.keepIn K (.ref f36) = true)
    (a37 : PySem.W.nsIn K mainGlobals "_law_square_root" = some (some (.ref f37))) (l37 : K.lookup f37 = some ⟨oc37, od37, .func (PySem.W.fnOf "_law_square_root" "_law_square_root" (defArgs s__law_square_root) (defBody s__law_square_root) (defScope s__law_square_root) .none kV37 dc37 pm37 an37 cd37 ct37), sl37⟩) (c37 : PySem.W.codeIn K cd37 "_law_square_root" = true) (k37 : PySem.W.keepIn K (.ref f37) = true)
    (a38 : PySem.W.nsIn K mainGlobals "_law_third_root" = some (some (.ref f38))) (l38 : K.lookup f38 = some ⟨oc38, od38, .func (PySem.W.fnOf "_law_third_root" "_law_third_root" (defArgs s__law_third_root) (defBody s__law_third_root) (defScope s__law_third_root) .none kV38 dc38 pm38 an38 cd38 ct38), sl38⟩) (c38 : PySem.W.codeIn K cd38 "_law_third_root" = true) (k38 : PySem.W.keepIn K (.ref f38) = true)
    (a39 : PySem.W.nsIn K mainGlobals "_law_u" = some (some (.ref f39))) (l39 : K.lookup f39 = some ⟨oc39, od39, .func (PySem.W.fnOf "_law_u" "_law_u" (defArgs s__law_u) (defBody s__law_u) (defScope s__law_u) .none kV39 dc39 pm39 an39 cd39 ct39), sl39⟩) (c39 : PySem.W.codeIn K cd39 "_law_u" = true) (k39 : PySem.W.keepIn K (.ref f39) = true)
    (a40 : PySem.W.nsIn K mainGlobals "_law_change_of" = some (some (.ref f40))) (l40 : K.lookup f40 = some ⟨oc40, od40, .func (PySem.W.fnOf "_law_change_of" "_law_change_of" (defArgs s__law_change_of) (defBody s__law_change_of) (defScope s__law_change_of) .none kV40 dc40 pm40 an40 cd40 ct40), sl40⟩) (c40 : PySem.W.codeIn K cd40 "_law_change_of" = true) (k40 : PySem.W.keepIn K (.ref f40) = true)
    (a41 : PySem.W.nsIn K mainGlobals "_law_due" = some (some (.ref f41))) (l41 : K.lookup f41 = some ⟨oc41, od41, .func (PySem.W.fnOf "_law_due" "_law_due" (defArgs s__law_due) (defBody s__law_due) (defScope s__law_due) .none kV41 dc41 pm41 an41 cd41 ct41), sl41⟩) (c41 : PySem.W.codeIn K cd41 "_law_due" = true) (k41 : PySem.W.keepIn K (.ref f41) = true)
    (a42 : PySem.W.nsIn K mainGlobals "_law_far" = some (some (.ref f42))) (l42 : K.lookup f42 = some ⟨oc42, od42, .func (PySem.W.fnOf "_law_far" "_law_far" (defArgs s__law_far) (defBody s__law_far) (defScope s__law_far) .none kV42 dc42 pm42 an42 cd42 ct42), sl42⟩) (c42 : PySem.W.codeIn K cd42 "_law_far" = true) (k42 : PySem.W.keepIn K (.ref f42) = true)
    (a43 : PySem.W.nsIn K mainGlobals "_law_is_let" = some (some (.ref f43))) (l43 : K.lookup f43 = some ⟨oc43, od43, .func (PySem.W.fnOf "_law_is_let" "_law_is_let" (defArgs s__law_is_let) (defBody s__law_is_let) (defScope s__law_is_let) .none kV43 dc43 pm43 an43 cd43 ct43), sl43⟩) (c43 : PySem.W.codeIn K cd43 "_law_is_let" = true) (k43 : PySem.W.keepIn K (.ref f43) = true)
    (a44 : PySem.W.nsIn K mainGlobals "_law_start" = some (some (.ref f44))) (l44 : K.lookup f44 = some ⟨oc44, od44, .func (PySem.W.fnOf "_law_start" "_law_start" (defArgs s__law_start) (defBody s__law_start) (defScope s__law_start) .none kV44 dc44 pm44 an44 cd44 ct44), sl44⟩) (c44 : PySem.W.codeIn K cd44 "_law_start" = true) (k44 : PySem.W.keepIn K (.ref f44) = true)
    (a45 : PySem.W.nsIn K mainGlobals "_law_right" = some (some (.ref f45))) (l45 : K.lookup f45 = some ⟨oc45, od45, .func (PySem.W.fnOf "_law_right" "_law_right" (defArgs s__law_right) (defBody s__law_right) (defScope s__law_right) .none kV45 dc45 pm45 an45 cd45 ct45), sl45⟩) (c45 : PySem.W.codeIn K cd45 "_law_right" = true) (k45 : PySem.W.keepIn K (.ref f45) = true)
    (a46 : PySem.W.nsIn K mainGlobals "law" = some (some (.ref f46))) (l46 : K.lookup f46 = some ⟨oc46, od46, .func (PySem.W.fnOf "law" "law" (defArgs s_law) (defBody s_law) (defScope s_law) .none kV46 dc46 pm46 an46 cd46 ct46), sl46⟩) (c46 : PySem.W.codeIn K cd46 "law" = true) (k46 : PySem.W.keepIn K (.ref f46) = true)
    (z_gcd : PySem.W.nsIn K mainGlobals "gcd" = some (some (.builtin "math.gcd")))
    (z_isqrt : PySem.W.nsIn K mainGlobals "isqrt" = some (some (.builtin "math.isqrt")))
    (z_int : PySem.W.nsIn K mainGlobals "int" = some none)
    (z_len : PySem.W.nsIn K mainGlobals "len" = some none)
    (z_tuple : PySem.W.nsIn K mainGlobals "tuple" = some none)
    (z_max : PySem.W.nsIn K mainGlobals "max" = some none)
    (z_min : PySem.W.nsIn K mainGlobals "min" = some none)
    (z_abs : PySem.W.nsIn K mainGlobals "abs" = some none)
    (z_range : PySem.W.nsIn K mainGlobals "range" = some none)
    (z_repr : PySem.W.nsIn K mainGlobals "repr" = some none)
    : ∃ fd : FuncData, (∀ (s : Shared) (v : Value), BindsTo s fd ⟨[v], []⟩ [("script", v)]) ∧ ∀ base : Heap, K.In base → base.Ns mainGlobals mg → FnG P w K mg base 8 fa fd ["script"] (sp_law K) := by
  have T : Tx K mg := ⟨PySem.W.mg_of X G z_gcd, PySem.W.mg_of X G z_isqrt, PySem.W.mg_none_of X G z_int, PySem.W.mg_none_of X G z_len, PySem.W.mg_none_of X G z_tuple, PySem.W.mg_none_of X G z_max, PySem.W.mg_none_of X G z_min, PySem.W.mg_none_of X G z_abs, PySem.W.mg_none_of X G z_range, PySem.W.mg_none_of X G z_repr⟩
  have d2 : Df K mg "power" s_power ["a", "e"] := df_mk X G a2 l2 c2 k2 (fun _ _ _ _ _ _ us hl => match us, hl with | [_, _], _ => rfl)
  have d3 : Df K mg "lowest" s_lowest ["n", "d"] := df_mk X G a3 l3 c3 k3 (fun _ _ _ _ _ _ us hl => match us, hl with | [_, _], _ => rfl)
  have d4 : Df K mg "root_of" s_root_of ["n", "k"] := df_mk X G a4 l4 c4 k4 (fun _ _ _ _ _ _ us hl => match us, hl with | [_, _], _ => rfl)
  have d5 : Df K mg "exact_root" s_exact_root ["n", "k"] := df_mk X G a5 l5 c5 k5 (fun _ _ _ _ _ _ us hl => match us, hl with | [_, _], _ => rfl)
  have d7 : Df K mg "five" s_five ["curve"] := df_mk X G a7 l7 c7 k7 (fun _ _ _ _ _ _ us hl => match us, hl with | [_], _ => rfl)
  have d8 : Df K mg "numbers_of" s_numbers_of ["curve"] := df_mk X G a8 l8 c8 k8 (fun _ _ _ _ _ _ us hl => match us, hl with | [_], _ => rfl)
  have d10 : Df K mg "plus" s_plus ["f", "g"] := df_mk X G a10 l10 c10 k10 (fun _ _ _ _ _ _ us hl => match us, hl with | [_, _], _ => rfl)
  have d11 : Df K mg "less" s_less ["f", "g"] := df_mk X G a11 l11 c11 k11 (fun _ _ _ _ _ _ us hl => match us, hl with | [_, _], _ => rfl)
  have d12 : Df K mg "times" s_times ["f", "g"] := df_mk X G a12 l12 c12 k12 (fun _ _ _ _ _ _ us hl => match us, hl with | [_, _], _ => rfl)
  have d13 : Df K mg "over" s_over ["f", "g"] := df_mk X G a13 l13 c13 k13 (fun _ _ _ _ _ _ us hl => match us, hl with | [_, _], _ => rfl)
  have d14 : Df K mg "whole_fraction" s_whole_fraction ["n"] := df_mk X G a14 l14 c14 k14 (fun _ _ _ _ _ _ us hl => match us, hl with | [_], _ => rfl)
  have d15 : Df K mg "total" s_total ["fractions"] := df_mk X G a15 l15 c15 k15 (fun _ _ _ _ _ _ us hl => match us, hl with | [_], _ => rfl)
  have d16 : Df K mg "product" s_product ["fractions"] := df_mk X G a16 l16 c16 k16 (fun _ _ _ _ _ _ us hl => match us, hl with | [_], _ => rfl)
  have d17 : Df K mg "root_of_fraction" s_root_of_fraction ["f", "k"] := df_mk X G a17 l17 c17 k17 (fun _ _ _ _ _ _ us hl => match us, hl with | [_, _], _ => rfl)
  have d19 : Df K mg "scale_between" s_scale_between ["curve", "other"] := df_mk X G a19 l19 c19 k19 (fun _ _ _ _ _ _ us hl => match us, hl with | [_, _], _ => rfl)
  have d20 : Df K mg "change_with" s_change_with ["curve", "other", "u"] := df_mk X G a20 l20 c20 k20 (fun _ _ _ _ _ _ us hl => match us, hl with | [_, _, _], _ => rfl)
  have d21 : Df K mg "changes_between" s_changes_between ["curve", "other"] := df_mk X G a21 l21 c21 k21 (fun _ _ _ _ _ _ us hl => match us, hl with | [_, _], _ => rfl)
  have d22 : Df K mg "are_alike" s_are_alike ["curve", "other"] := df_mk X G a22 l22 c22 k22 (fun _ _ _ _ _ _ us hl => match us, hl with | [_, _], _ => rfl)
  have d24 : Df K mg "_law_begun" s__law_begun ["script", "k"] := df_mk X G a24 l24 c24 k24 (fun _ _ _ _ _ _ us hl => match us, hl with | [_, _], _ => rfl)
  have d25 : Df K mg "_law_draw" s__law_draw ["m", "below"] := df_mk X G a25 l25 c25 k25 (fun _ _ _ _ _ _ us hl => match us, hl with | [_, _], _ => rfl)
  have d26 : Df K mg "_law_of" s__law_of ["m", "some"] := df_mk X G a26 l26 c26 k26 (fun _ _ _ _ _ _ us hl => match us, hl with | [_, _], _ => rfl)
  have d27 : Df K mg "_law_between" s__law_between ["m", "size"] := df_mk X G a27 l27 c27 k27 (fun _ _ _ _ _ _ us hl => match us, hl with | [_, _], _ => rfl)
  have d28 : Df K mg "_law_common" s__law_common ["a", "b"] := df_mk X G a28 l28 c28 k28 (fun _ _ _ _ _ _ us hl => match us, hl with | [_, _], _ => rfl)
  have d29 : Df K mg "_law_cut" s__law_cut ["n", "d"] := df_mk X G a29 l29 c29 k29 (fun _ _ _ _ _ _ us hl => match us, hl with | [_, _], _ => rfl)
  have d30 : Df K mg "_law_plus" s__law_plus ["f", "g"] := df_mk X G a30 l30 c30 k30 (fun _ _ _ _ _ _ us hl => match us, hl with | [_, _], _ => rfl)
  have d31 : Df K mg "_law_less" s__law_less ["f", "g"] := df_mk X G a31 l31 c31 k31 (fun _ _ _ _ _ _ us hl => match us, hl with | [_, _], _ => rfl)
  have d32 : Df K mg "_law_by" s__law_by ["f", "g"] := df_mk X G a32 l32 c32 k32 (fun _ _ _ _ _ _ us hl => match us, hl with | [_, _], _ => rfl)
  have d34 : Df K mg "_law_numbers" s__law_numbers ["five_v"] := df_mk X G a34 l34 c34 k34 (fun _ _ _ _ _ _ us hl => match us, hl with | [_], _ => rfl)
  have d35 : Df K mg "_law_root" s__law_root ["n"] := df_mk X G a35 l35 c35 k35 (fun _ _ _ _ _ _ us hl => match us, hl with | [_], _ => rfl)
  have d36 : Df K mg "_law_power" s__law_power ["f", "n"] := df_mk X G a36 l36 c36 k36 (fun _ _ _ _ _ _ us hl => match us, hl with | [_, _], _ => rfl)
  have d37 : Df K mg "_law_square_root" s__law_square_root ["f"] := df_mk X G a37 l37 c37 k37 (fun _ _ _ _ _ _ us hl => match us, hl with | [_], _ => rfl)
  have d38 : Df K mg "_law_third_root" s__law_third_root ["n"] := df_mk X G a38 l38 c38 k38 (fun _ _ _ _ _ _ us hl => match us, hl with | [_], _ => rfl)
  have d39 : Df K mg "_law_u" s__law_u ["five_v", "other"] := df_mk X G a39 l39 c39 k39 (fun _ _ _ _ _ _ us hl => match us, hl with | [_, _], _ => rfl)
  have d40 : Df K mg "_law_change_of" s__law_change_of ["five_v", "other", "u"] := df_mk X G a40 l40 c40 k40 (fun _ _ _ _ _ _ us hl => match us, hl with | [_, _, _], _ => rfl)
  have d41 : Df K mg "_law_due" s__law_due ["five_v", "other"] := df_mk X G a41 l41 c41 k41 (fun _ _ _ _ _ _ us hl => match us, hl with | [_, _], _ => rfl)
  have d42 : Df K mg "_law_far" s__law_far ["m", "five_v"] := df_mk X G a42 l42 c42 k42 (fun _ _ _ _ _ _ us hl => match us, hl with | [_, _], _ => rfl)
  have d43 : Df K mg "_law_is_let" s__law_is_let ["five_v"] := df_mk X G a43 l43 c43 k43 (fun _ _ _ _ _ _ us hl => match us, hl with | [_], _ => rfl)
  have d44 : Df K mg "_law_start" s__law_start ["m"] := df_mk X G a44 l44 c44 k44 (fun _ _ _ _ _ _ us hl => match us, hl with | [_], _ => rfl)
  have d45 : Df K mg "_law_right" s__law_right ["m"] := df_mk X G a45 l45 c45 k45 (fun _ _ _ _ _ _ us hl => match us, hl with | [_], _ => rfl)
  refine law_fd X G hfa a46 l46 c46 k46 (fun _ _ _ _ _ _ us hl => match us, hl with | [_], _ => rfl) (fun fd F base => ?_)
  have c_power := k_power (P := P) (w := w) (base := base) T d2 
  have c_lowest := k_lowest (P := P) (w := w) (base := base) T d3 
  have c_five := k_five (P := P) (w := w) (base := base) T d7 
  have c_whole_fraction := k_whole_fraction (P := P) (w := w) (base := base) T d14 
  have c_law_begun := k_law_begun (P := P) (w := w) (base := base) T d24 
  have c_law_draw := k_law_draw (P := P) (w := w) (base := base) T d25 
  have c_law_common := k_law_common (P := P) (w := w) (base := base) T d28 
  have c_law_numbers := k_law_numbers (P := P) (w := w) (base := base) T d34 
  have c_law_root := k_law_root (P := P) (w := w) (base := base) T d35 
  have c_law_third_root := k_law_third_root (P := P) (w := w) (base := base) T d38 
  have c_law_is_let := k_law_is_let (P := P) (w := w) (base := base) T d43 
  have c_root_of := k_root_of (P := P) (w := w) (base := base) T d4 c_power
  have c_numbers_of := k_numbers_of (P := P) (w := w) (base := base) T d8 c_five
  have c_plus := k_plus (P := P) (w := w) (base := base) T d10 c_lowest
  have c_less := k_less (P := P) (w := w) (base := base) T d11 c_lowest
  have c_times := k_times (P := P) (w := w) (base := base) T d12 c_lowest
  have c_over := k_over (P := P) (w := w) (base := base) T d13 c_lowest
  have c_law_of := k_law_of (P := P) (w := w) (base := base) T d26 c_law_draw
  have c_law_between := k_law_between (P := P) (w := w) (base := base) T d27 c_law_draw
  have c_law_cut := k_law_cut (P := P) (w := w) (base := base) T d29 c_law_common
  have c_law_square_root := k_law_square_root (P := P) (w := w) (base := base) T d37 c_law_root
  have c_exact_root := k_exact_root (P := P) (w := w) (base := base) T d5 c_root_of c_power
  have c_total := k_total (P := P) (w := w) (base := base) T d15 c_plus
  have c_product := k_product (P := P) (w := w) (base := base) T d16 c_times
  have c_law_plus := k_law_plus (P := P) (w := w) (base := base) T d30 c_law_cut
  have c_law_less := k_law_less (P := P) (w := w) (base := base) T d31 c_law_cut
  have c_law_by := k_law_by (P := P) (w := w) (base := base) T d32 c_law_cut
  have c_law_far := k_law_far (P := P) (w := w) (base := base) T d42 c_law_of c_law_between c_law_is_let
  have c_law_start := k_law_start (P := P) (w := w) (base := base) T d44 c_law_of c_law_draw c_law_between c_law_numbers
  have c_root_of_fraction := k_root_of_fraction (P := P) (w := w) (base := base) T d17 c_exact_root
  have c_change_with := k_change_with (P := P) (w := w) (base := base) T d20 c_times c_over c_whole_fraction c_less c_total c_five c_product
  have c_law_power := k_law_power (P := P) (w := w) (base := base) T d36 c_law_by
  have c_scale_between := k_scale_between (P := P) (w := w) (base := base) T d19 c_numbers_of c_root_of_fraction c_lowest
  have c_law_u := k_law_u (P := P) (w := w) (base := base) T d39 c_law_square_root c_law_numbers c_law_cut c_law_by c_law_third_root c_law_power
  have c_law_change_of := k_law_change_of (P := P) (w := w) (base := base) T d40 c_law_by c_law_plus c_law_less c_law_power
  have c_changes_between := k_changes_between (P := P) (w := w) (base := base) T d21 c_scale_between c_change_with
  have c_are_alike := k_are_alike (P := P) (w := w) (base := base) T d22 c_scale_between
  have c_law_due := k_law_due (P := P) (w := w) (base := base) T d41 c_law_u c_law_change_of
  have c_law_right := k_law_right (P := P) (w := w) (base := base) T d45 c_law_start c_law_far c_law_of c_law_numbers c_law_draw c_law_is_let c_law_due c_changes_between c_are_alike
  exact k_law T F c_law_right c_law_begun
end K07
open PySem PySem.W PyProof.Rows
set_option maxRecDepth 100000 in
set_option maxHeartbeats 0 in
theorem PySem.Challenge.cw_pointsum_k07_whole_alike_curves_holds : PySem.Challenge.rw_pointsum_k07_whole_alike_curves.Holds := by
  w_on; o_law; k_head; (case hw => w_witness2)
  k_fill
  refine Gd.walk_g (l := PySem.Challenge.rw_pointsum_k07_whole_alike_curves) (n := 63) (k := 8) (x := "script") (sp := fun K => K07.sp_law K) rfl (by decide) rfl ⟨rfl, by decide, by decide⟩ (fun w h Y => PySem.W.kIn_of Y) ?F (fun K H a ns hl hS => ⟨a, ns, rfl, hS, hl, fun _ => rfl⟩)
  case F =>
    intro w mg fa h KX G hmg
    refine' K07.all_mk KX G hmg ?a2 ?l2 ?c2 ?k2 ?a3 ?l3 ?c3 ?k3 ?a4 ?l4 ?c4 ?k4 ?a5 ?l5 ?c5 ?k5 ?a7 ?l7 ?c7 ?k7 ?a8 ?l8 ?c8 ?k8 ?a10 ?l10 ?c10 ?k10 ?a11 ?l11 ?c11 ?k11 ?a12 ?l12 ?c12 ?k12 ?a13 ?l13 ?c13 ?k13 ?a14 ?l14 ?c14 ?k14 ?a15 ?l15 ?c15 ?k15 ?a16 ?l16 ?c16 ?k16 ?a17 ?l17 ?c17 ?k17 ?a19 ?l19 ?c19 ?k19 ?a20 ?l20 ?c20 ?k20 ?a21 ?l21 ?c21 ?k21 ?a22 ?l22 ?c22 ?k22 ?a24 ?l24 ?c24 ?k24 ?a25 ?l25 ?c25 ?k25 ?a26 ?l26 ?c26 ?k26 ?a27 ?l27 ?c27 ?k27 ?a28 ?l28 ?c28 ?k28 ?a29 ?l29 ?c29 ?k29 ?a30 ?l30 ?c30 ?k30 ?a31 ?l31 ?c31 ?k31 ?a32 ?l32 ?c32 ?k32 ?a34 ?l34 ?c34 ?k34 ?a35 ?l35 ?c35 ?k35 ?a36 ?l36 ?c36 ?k36 ?a37 ?l37 ?c37 ?k37 ?a38 ?l38 ?c38 ?k38 ?a39 ?l39 ?c39 ?k39 ?a40 ?l40 ?c40 ?k40 ?a41 ?l41 ?c41 ?k41 ?a42 ?l42 ?c42 ?k42 ?a43 ?l43 ?c43 ?k43 ?a44 ?l44 ?c44 ?k44 ?a45 ?l45 ?c45 ?k45 ?a46 ?l46 ?c46 ?k46 ?z_gcd ?z_isqrt ?z_int ?z_len ?z_tuple ?z_max ?z_min ?z_abs ?z_range ?z_repr
    (case a2 => k_is); (case l2 => k_is); (case c2 => k_is); (case k2 => k_is); (case a3 => k_is); (case l3 => k_is); (case c3 => k_is); (case k3 => k_is)
    (case a4 => k_is); (case l4 => k_is); (case c4 => k_is); (case k4 => k_is); (case a5 => k_is); (case l5 => k_is); (case c5 => k_is); (case k5 => k_is)
    (case a7 => k_is); (case l7 => k_is); (case c7 => k_is); (case k7 => k_is); (case a8 => k_is); (case l8 => k_is); (case c8 => k_is); (case k8 => k_is)
    (case a10 => k_is); (case l10 => k_is); (case c10 => k_is); (case k10 => k_is); (case a11 => k_is); (case l11 => k_is); (case c11 => k_is); (case k11 => k_is)
    (case a12 => k_is); (case l12 => k_is); (case c12 => k_is); (case k12 => k_is); (case a13 => k_is); (case l13 => k_is); (case c13 => k_is); (case k13 => k_is)
    (case a14 => k_is); (case l14 => k_is); (case c14 => k_is); (case k14 => k_is); (case a15 => k_is); (case l15 => k_is); (case c15 => k_is); (case k15 => k_is)
    (case a16 => k_is); (case l16 => k_is); (case c16 => k_is); (case k16 => k_is); (case a17 => k_is); (case l17 => k_is); (case c17 => k_is); (case k17 => k_is)
    (case a19 => k_is); (case l19 => k_is); (case c19 => k_is); (case k19 => k_is); (case a20 => k_is); (case l20 => k_is); (case c20 => k_is); (case k20 => k_is)
    (case a21 => k_is); (case l21 => k_is); (case c21 => k_is); (case k21 => k_is); (case a22 => k_is); (case l22 => k_is); (case c22 => k_is); (case k22 => k_is)
    (case a24 => k_is); (case l24 => k_is); (case c24 => k_is); (case k24 => k_is); (case a25 => k_is); (case l25 => k_is); (case c25 => k_is); (case k25 => k_is)
    (case a26 => k_is); (case l26 => k_is); (case c26 => k_is); (case k26 => k_is); (case a27 => k_is); (case l27 => k_is); (case c27 => k_is); (case k27 => k_is)
    (case a28 => k_is); (case l28 => k_is); (case c28 => k_is); (case k28 => k_is); (case a29 => k_is); (case l29 => k_is); (case c29 => k_is); (case k29 => k_is)
    (case a30 => k_is); (case l30 => k_is); (case c30 => k_is); (case k30 => k_is); (case a31 => k_is); (case l31 => k_is); (case c31 => k_is); (case k31 => k_is)
    (case a32 => k_is); (case l32 => k_is); (case c32 => k_is); (case k32 => k_is); (case a34 => k_is); (case l34 => k_is); (case c34 => k_is); (case k34 => k_is)
    (case a35 => k_is); (case l35 => k_is); (case c35 => k_is); (case k35 => k_is); (case a36 => k_is); (case l36 => k_is); (case c36 => k_is); (case k36 => k_is)
    (case a37 => k_is); (case l37 => k_is); (case c37 => k_is); (case k37 => k_is); (case a38 => k_is); (case l38 => k_is); (case c38 => k_is); (case k38 => k_is)
    (case a39 => k_is); (case l39 => k_is); (case c39 => k_is); (case k39 => k_is); (case a40 => k_is); (case l40 => k_is); (case c40 => k_is); (case k40 => k_is)
    (case a41 => k_is); (case l41 => k_is); (case c41 => k_is); (case k41 => k_is); (case a42 => k_is); (case l42 => k_is); (case c42 => k_is); (case k42 => k_is)
    (case a43 => k_is); (case l43 => k_is); (case c43 => k_is); (case k43 => k_is); (case a44 => k_is); (case l44 => k_is); (case c44 => k_is); (case k44 => k_is)
    (case a45 => k_is); (case l45 => k_is); (case c45 => k_is); (case k45 => k_is); (case a46 => k_is); (case l46 => k_is); (case c46 => k_is); (case k46 => k_is)
    (case z_gcd => k_is); (case z_isqrt => k_is); (case z_int => k_is); (case z_len => k_is); (case z_tuple => k_is); (case z_max => k_is); (case z_min => k_is); (case z_abs => k_is)
    (case z_range => k_is); (case z_repr => k_is)
